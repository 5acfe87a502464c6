/- Texts HdM, StA, SliA, SlpA, StB, StU, one behind the other. -/
import Derived.Test.YtcgkbcgpnlogoaaGreatDoorHdL
import Derived.Test.YtcgkbcgpnlogoaaGreatDoorMgAA
import Derived.Test.YtcgkbcgpnlogoaaGreatDoorMgAD
import Derived.Test.YtcgkbcgpnlogoaaGreatDoorMgAC
import Derived.Laws.OwnMore
import Derived.Laws.CopyRow
import Derived.Lib.Overlaps
import Derived.Lib.AppendZerosOnto
import Derived.Shelf.Spec.SlicesInsert
import Derived.Laws.BytesArg
import Derived.Laws.CopyOwn
import Derived.WalkKit
import Derived.Test.YtcgkbcgpnlogoaaGreatDoorFvB
import Derived.Test.YtcgkbcgpnlogoaaGreatDoorMgAG
/- Heads on devices that have power, plainly: what counts behind what was put; a torn one. -/
namespace Go.Proofs.YtcgkbcgpnlogoaaGreatDoor.Hd
open Tal Sla Fr
/-- A device of n sectors with power, with nothing that isn't sure. -/
structure Calm (D : Dev) (n : Nat) (S : Nat → ByteArray) (k : Nat) : Prop where
 n : D.n = n
 s : D.S = S
 m : D.m = 0
 dead : D.dead = false
 left : D.left = -1
 d0 : 0 ≤ D.deeds
 d1 : D.deeds ≤ k
def putS (S : Nat → ByteArray) (h : H) : Nat → ByteArray := fun j => if h.e % 2 = (j : Int) then headB h else S j
section
variable {D : Dev} {n k : Nat} {S : Nat → ByteArray} {h f : H}
theorem Calm.ok (c : Calm D n S k) (h1 : 1 ≤ n) (h2 : n ≤ 2000) (hs : ∀ j, j < n → (S j).size = 256) : D.Ok k :=
 ⟨by rw [c.n]; exact h1, by rw [c.n]; exact h2, by rw [c.m]; exact Nat.zero_le _, c.d0, c.d1, by rw [c.left]; decide, by rw [c.left]; decide, fun j hj => by rw [c.s]; exact hs j (by rw [← c.n]; exact hj), fun j hj => absurd hj (by rw [c.m]; omega), fun j hj => absurd hj (by rw [c.m]; omega)⟩
theorem pad_full {d : ByteArray} (h : d.size = 256) : padB d = d := by
 unfold padB
 rw [h]
 apply ByteArray.ext
 simp [ByteArray.data_append]
theorem calm_pow (c : Calm D n S k) : D.pow = true := by
 unfold Dev.pow
 rw [c.dead, c.left]
 rfl
theorem up_calm (c : Calm D n S k) : Calm D.up n S (k + 1) :=
 ⟨c.n, c.s, c.m, c.dead, by show lessLeft D.left = -1; rw [c.left]; rfl, by show 0 ≤ D.deeds + 1; have := c.d0; omega, by show D.deeds + 1 ≤ _; have := c.d1; push_cast; omega⟩
theorem putS_size (hs : ∀ j, j < n → (S j).size = 256) : ∀ j, j < n → (putS S h j).size = 256 := fun j hj => by
 unfold putS
 split
 ·exact headB_size h
 ·exact hs j hj
theorem put_calm (c : Calm D n S k) (hr : RightH h) : ∃ D', putH D h = (D', 0) ∧ Calm D' n (putS S h) (k + 2) := by
 have hp := calm_pow c
 have h1 : putR D (h.e % 2) (headB h) = (D.putAt (h.e % 2) (headB h), 0) := if_pos hp
 have hp2 : (D.putAt (h.e % 2) (headB h)).pow = true := by
  unfold Dev.pow
  show (!D.dead && !(lessLeft D.left == 0)) = true
  rw [c.dead, c.left]
  rfl
 refine ⟨(D.putAt (h.e % 2) (headB h)).flushed, ?_, ⟨c.n, ?_, rfl, c.dead, ?_, ?_, ?_⟩⟩
 ·unfold putH
  rw [if_pos hr, h1]
  exact (if_pos rfl).trans (if_pos hp2)
 ·show flushS D.S (snocI D.LA D.m (h.e % 2)) (snocD D.LD D.m (padB (headB h))) (D.m + 1) = putS S h
  rw [c.m, c.s, pad_full (headB_size h)]
  rfl
 ·show lessLeft (lessLeft D.left) = -1
  rw [c.left]
  rfl
 ·show 0 ≤ D.deeds + 1 + 1
  have := c.d0
  omega
 ·show D.deeds + 1 + 1 ≤ _
  have := c.d1
  push_cast
  omega
theorem calm_get (c : Calm D n S k) (q : Nat) : getR D q = (D.up, S q, 0) := by
 unfold getR
 rw [if_pos (calm_pow c), c.m, c.s]
 rfl
theorem newest_calm (c : Calm D n S k) : ∃ D', newestR D = (if (bestH (S 0) (S 1)).e = 0 then (D', noH, 2) else (D', bestH (S 0) (S 1), 0)) ∧ Calm D' n S (k + 2) := by
 have c1 := up_calm c
 have g0 : getR (DQ D 0) 0 = (D.up, S 0, 0) := calm_get c 0
 have d1 : DQ D 1 = D.up := congrArg Prod.fst g0
 have g1 : getR (DQ D 1) 1 = (D.up.up, S 1, 0) := by rw [d1]; exact calm_get c1 1
 have d2 : DQ D 2 = D.up.up := congrArg Prod.fst g1
 have e0 : ERq D 0 = 0 := by unfold ERq; rw [g0]
 have e1 : ERq D 1 = 0 := by unfold ERq; rw [g1]
 have t0 : TXq D 0 = S 0 := by unfold TXq; rw [g0]
 have t1 : TXq D 1 = S 1 := by unfold TXq; rw [g1]
 have hc : CUR D 2 = bestH (S 0) (S 1) := by
  show stepH (stepH noH (TXq D 0)) (TXq D 1) = _
  rw [t0, t1]
  rfl
 refine ⟨D.up.up, ?_, up_calm c1⟩
 unfold newestR
 rw [e0, e1, hc, d2, if_neg (by decide), if_neg (by decide)]
theorem step_none {t : ByteArray} (h : parseH t = none) (cur : H) : stepH cur t = cur := by
 unfold stepH
 rw [h]
theorem step_some {t : ByteArray} (h : parseH t = some f) (cur : H) : stepH cur t = if cur.e < f.e then f else cur := by
 unfold stepH
 rw [h]
theorem step_first {t : ByteArray} (h : parseH t = some f) : stepH noH t = f := by
 rw [step_some h, if_pos]
 have := (parse_iff.1 h).1.e0
 show (0 : Int) < f.e
 omega
/-- Of two sectors with heads the greater one counts. -/
theorem best_two {a b : ByteArray} {g : H} (ha : parseH a = some f) (hb : parseH b = some g) : bestH a b = if f.e < g.e then g else f := by
 unfold bestH
 rw [step_first ha, step_some hb]
theorem best_fst {a b : ByteArray} (ha : parseH a = some f) (hb : parseH b = none) : bestH a b = f := by
 unfold bestH
 rw [step_first ha, step_none hb]
theorem best_snd {a b : ByteArray} (ha : parseH a = none) (hb : parseH b = some f) : bestH a b = f := by
 unfold bestH
 rw [step_none ha, step_first hb]
def nought : ByteArray := padB ⟨#[]⟩
theorem nought_list : nought.data.toList = List.replicate 256 0 := rfl
theorem nought_size : nought.size = 256 := padB_size _ (by decide)
theorem parse_nought : parseH nought = none := parse_first (by rw [nought_list]; decide)
theorem fresh_calm (n : Nat) : Calm (fresh n) n (fun _ => nought) 0 := ⟨rfl, rfl, rfl, rfl, rfl, Int.le_refl _, Int.le_refl _⟩
end
section
variable {f g old next : H} {U : ByteArray}
end
end Go.Proofs.YtcgkbcgpnlogoaaGreatDoor.Hd

/- A store, told plainly: what each call makes of it. -/
namespace Go.Proofs.YtcgkbcgpnlogoaaGreatDoor.St
open Go.RowKit Go.Shelf Tal Sla Hd Fr Lf

/-- Where in the log a page stands; a page. -/
structure Im where
  pg : Nat
  at_ : Nat
structure Pg where
  no : Nat
  data : ByteArray
/-- A store: its device and head, the log's length, what is in it, what has changed, what is at hand. -/
structure S where
  d : Dev
  h : H
  t : Nat
  fr : List Im
  di : List Pg
  c : Cl.C
def homeN (no : Nat) : Nat := 2 + no
def logN (h : H) (i : Nat) : Nat := 2 + h.p.toNat + i
open Classical in
/-- The i-th frame of the log that counts. -/
noncomputable def frameR (D : Dev) (h : H) (i : Nat) : Dev × F × Int :=
  if (getR D (logN h i)).2.2 ≠ 0 then ((getR D (logN h i)).1, noF0, (getR D (logN h i)).2.2)
  else match parseF (getR D (logN h i)).2.1 with
    | none => ((getR D (logN h i)).1, noF0, 2)
    | some f => if f.e = h.e ∧ f.i = i then ((getR D (logN h i)).1, f, 0) else ((getR D (logN h i)).1, noF0, 2)
where noF0 : F := ⟨0, 0, false, 0, ⟨#[]⟩⟩
open Classical in
/-- A page's bytes in the log. -/
noncomputable def logR (D : Dev) (h : H) (m : Im) : Dev × ByteArray × Int :=
  if (frameR D h m.at_).2.2 ≠ 0 then ((frameR D h m.at_).1, ⟨#[]⟩, (frameR D h m.at_).2.2)
  else if (frameR D h m.at_).2.1.c = true ∨ (frameR D h m.at_).2.1.p ≠ m.pg then ((frameR D h m.at_).1, ⟨#[]⟩, 2)
  else ((frameR D h m.at_).1, (frameR D h m.at_).2.1.d, 0)
/-- A page's bytes at home. -/
noncomputable def homeR (D : Dev) (no : Nat) : Dev × ByteArray × Int :=
  if (getR D (homeN no)).2.2 ≠ 0 then ((getR D (homeN no)).1, ⟨#[]⟩, (getR D (homeN no)).2.2)
  else ((getR D (homeN no)).1, (parseL (getR D (homeN no)).2.1 no).getD (zeros 200), 0)
def findI : List Im → Nat → Option Im
  | [], _ => none
  | m :: l, no => if m.pg = no then some m else findI l no
def findP : List Pg → Nat → Option Pg
  | [], _ => none
  | p :: l, no => if p.no = no then some p else findP l no
/-- A page's bytes as they were committed last. -/
noncomputable def sureR (s : S) (no : Nat) : Dev × ByteArray × Int :=
  match findI s.fr no with
  | some m => logR s.d s.h m
  | none => homeR s.d no
/-- In order, with one more; of two of one page the later one. -/
def insI : List Im → Im → List Im
  | [], x => [x]
  | y :: l, x => if y.pg < x.pg then y :: insI l x else if y.pg = x.pg then x :: l else x :: y :: l
def insP : List Pg → Pg → List Pg
  | [], x => [x]
  | y :: l, x => if y.no < x.no then y :: insP l x else if y.no = x.no then x :: l else x :: y :: l
def HasNo (h : H) (no : Int) : Prop := 0 ≤ no ∧ no < h.p
open Classical in
noncomputable def readR (s : S) (no : Int) : S × ByteArray × Int :=
  if ¬ HasNo s.h no then (s, ⟨#[]⟩, 1)
  else if s.d.dead = true then (s, ⟨#[]⟩, 10)
  else match findP s.di no.toNat with
    | some p => (s, p.data, 0)
    | none =>
      if (Cl.getC s.c no).2.2 = true then ({ s with c := (Cl.getC s.c no).1 }, (Cl.getC s.c no).2.1, 0)
      else if (sureR s no.toNat).2.2 ≠ 0 then ({ s with d := (sureR s no.toNat).1 }, ⟨#[]⟩, (sureR s no.toNat).2.2)
      else ({ s with d := (sureR s no.toNat).1, c := Cl.putC s.c no (sureR s no.toNat).2.1 }, (sureR s no.toNat).2.1, 0)
/-- Noughts up to 200 bytes. -/
def padP (d : ByteArray) : ByteArray := d ++ (zeros 200).extract d.size 200
open Classical in
noncomputable def writeR (s : S) (no : Int) (d : ByteArray) : S × Int :=
  if ¬ HasNo s.h no ∨ 200 < d.size then (s, 1)
  else if s.d.dead = true then (s, 10)
  else ({ s with di := insP s.di ⟨no.toNat, padP d⟩ }, 0)
def abortR (s : S) : S := { s with di := [] }
/-- All that is in the log put home, page by page. -/
noncomputable def homesR (h : H) : Dev → List Im → Dev × Int
  | D, [] => (D, 0)
  | D, m :: l =>
    if (logR D h m).2.2 ≠ 0 then ((logR D h m).1, (logR D h m).2.2)
    else if (putR (logR D h m).1 (homeN m.pg) (leafB m.pg (logR D h m).2.1)).2 ≠ 0 then putR (logR D h m).1 (homeN m.pg) (leafB m.pg (logR D h m).2.1)
    else homesR h (putR (logR D h m).1 (homeN m.pg) (leafB m.pg (logR D h m).2.1)).1 l
noncomputable def broughtR (s : S) : Dev × Int := if (homesR s.h s.d s.fr).2 ≠ 0 then homesR s.h s.d s.fr else flushR (homesR s.h s.d s.fr).1
def nextH (h : H) : H := ⟨h.p, h.l, h.e + 1⟩
noncomputable def checkR (s : S) : S × Int :=
  if s.d.dead = true then (s, 10)
  else if (broughtR s).2 ≠ 0 then ({ s with d := (broughtR s).1 }, (broughtR s).2)
  else if (putH (broughtR s).1 (nextH s.h)).2 ≠ 0 then ({ s with d := (putH (broughtR s).1 (nextH s.h)).1 }, (putH (broughtR s).1 (nextH s.h)).2)
  else ({ s with d := (putH (broughtR s).1 (nextH s.h)).1, h := nextH s.h, t := 0, fr := [] }, 0)
/-- A commit's frames. -/
def pageF (h : H) (t : Nat) (i : Nat) (p : Pg) : F := ⟨h.e, (t + i : Nat), false, p.no, p.data⟩
def endF (h : H) (t n : Nat) : F := ⟨h.e, (t + n : Nat), true, n, ⟨#[]⟩⟩
def framesL (s : S) : List F := s.di.mapIdx (pageF s.h s.t) ++ [endF s.h s.t s.di.length]
noncomputable def putsR (h : H) : Dev → List F → Dev × Int
  | D, [] => (D, 0)
  | D, f :: l => if (putR D (logN h f.i.toNat) (frameB f)).2 ≠ 0 then putR D (logN h f.i.toNat) (frameB f) else putsR h (putR D (logN h f.i.toNat) (frameB f)).1 l
noncomputable def loggedR (s : S) : Dev × Int := if (putsR s.h s.d (framesL s)).2 ≠ 0 then putsR s.h s.d (framesL s) else flushR (putsR s.h s.d (framesL s)).1
def imsL (s : S) : List Im := s.di.mapIdx fun i p => ⟨p.no, s.t + i⟩
def handL (c : Cl.C) : List Pg → Cl.C
  | [] => c
  | p :: l => handL (Cl.putC c p.no p.data) l
def withI (l : List Im) (more : List Im) : List Im := more.foldl insI l
def settledR (s : S) : S := { s with c := handL s.c s.di, fr := withI s.fr (imsL s), t := s.t + (s.di.length + 1), di := [] }
noncomputable def commitR (s : S) : S × Int :=
  if s.d.dead = true then (s, 10)
  else if s.di = [] then (s, 0)
  else if s.h.l < s.di.length + 1 then (s, 9)
  else if s.h.l < (s.t : Int) + (s.di.length + 1) then
    (if (checkR s).2 ≠ 0 then checkR s
     else if (loggedR (checkR s).1).2 ≠ 0 then ({ (checkR s).1 with d := (loggedR (checkR s).1).1 }, (loggedR (checkR s).1).2)
     else (settledR { (checkR s).1 with d := (loggedR (checkR s).1).1 }, 0))
  else if (loggedR s).2 ≠ 0 then ({ s with d := (loggedR s).1 }, (loggedR s).2)
  else (settledR { s with d := (loggedR s).1 }, 0)
def Follows (h : H) (f : F) (wait : Nat) : Prop := if f.c = true then f.p = wait else 0 ≤ f.p ∧ f.p < h.p
open Classical in
/-- The log gone through from place i on, so many places. -/
noncomputable def recallR : Nat → Nat → S → List Im → S × Int
  | 0, _, s, _ => (s, 0)
  | n + 1, i, s, wait =>
    if (frameR s.d s.h i).2.2 = 2 ∨ ((frameR s.d s.h i).2.2 = 0 ∧ ¬ Follows s.h (frameR s.d s.h i).2.1 wait.length) then ({ s with d := (frameR s.d s.h i).1 }, 0)
    else if (frameR s.d s.h i).2.2 ≠ 0 then ({ s with d := (frameR s.d s.h i).1 }, (frameR s.d s.h i).2.2)
    else if (frameR s.d s.h i).2.1.c = true then recallR n (i + 1) { s with d := (frameR s.d s.h i).1, fr := withI s.fr wait, t := i + 1 } []
    else recallR n (i + 1) { s with d := (frameR s.d s.h i).1 } (wait ++ [⟨(frameR s.d s.h i).2.1.p.toNat, i⟩])
noncomputable def recalledR (s : S) : S × Int := recallR s.h.l.toNat 0 s []
def sizeN (h : H) : Int := 2 + h.p + h.l
/-- A store that came up: none beside an error. -/
noncomputable def openR (D : Dev) : Option S × Dev × Int :=
  if (newestR D).2.2 ≠ 0 then (none, (newestR D).1, (newestR D).2.2)
  else if (D.n : Int) ≠ sizeN (newestR D).2.1 then (none, (newestR D).1, 2)
  else if (recalledR ⟨(newestR D).1, (newestR D).2.1, 0, [], [], ⟨[], 0⟩⟩).2 ≠ 0 then (none, (recalledR ⟨(newestR D).1, (newestR D).2.1, 0, [], [], ⟨[], 0⟩⟩).1.d, (recalledR ⟨(newestR D).1, (newestR D).2.1, 0, [], [], ⟨[], 0⟩⟩).2)
  else if (checkR (recalledR ⟨(newestR D).1, (newestR D).2.1, 0, [], [], ⟨[], 0⟩⟩).1).2 ≠ 0 then (none, (checkR (recalledR ⟨(newestR D).1, (newestR D).2.1, 0, [], [], ⟨[], 0⟩⟩).1).1.d, (checkR (recalledR ⟨(newestR D).1, (newestR D).2.1, 0, [], [], ⟨[], 0⟩⟩).1).2)
  else (some (checkR (recalledR ⟨(newestR D).1, (newestR D).2.1, 0, [], [], ⟨[], 0⟩⟩).1).1, (checkR (recalledR ⟨(newestR D).1, (newestR D).2.1, 0, [], [], ⟨[], 0⟩⟩).1).1.d, 0)
open Classical in
noncomputable def formatR (p l : Int) : Option S × Int :=
  if ¬ RightH ⟨p, l, 1⟩ then (none, 1)
  else if (putH (fresh (2 + p + l).toNat) ⟨p, l, 1⟩).2 ≠ 0 then (none, (putH (fresh (2 + p + l).toNat) ⟨p, l, 1⟩).2)
  else (some ⟨(putH (fresh (2 + p + l).toNat) ⟨p, l, 1⟩).1, ⟨p, l, 1⟩, 0, [], [], ⟨[], 0⟩⟩, 0)
end Go.Proofs.YtcgkbcgpnlogoaaGreatDoor.St

/- Rows of images in memory: of one's own, copied, cloned. -/
namespace Go.Proofs.YtcgkbcgpnlogoaaGreatDoor.SlI
open Go.RowKit Pac

abbrev E := St.Im
def cellsE (e : E) : List Value := [(Value.int .i64 (e.pg : Nat)), (Value.int .i64 (e.at_ : Nat))]
theorem cellsE_len (e : E) : (cellsE e).length = 2 := rfl
abbrev HasE (w : World) (lo : Nat) (A : Option Addr) (l : List E) : Prop := Li.HasL cellsE 2 w lo A l
theorem infoE : (Tryz.prog.info? 116).map (fun i => (i.zero, i.size, i.bytes)) = some (some (.agg #[.int .i64 0, .int .i64 0]), 2, 16) := by kernel_rfl
/-- The slice v owns a row that holds these. -/
abbrev OwnE (w : World) (base : Nat) (v : Value) (n : Nat) (l : List E) : Prop := w.ownsRow base 116 2 v n (Li.cellsL cellsE l)
theorem cellsE_cons (x : E) (l : List E) : Li.cellsL cellsE (x :: l) = (Value.int .i64 (x.pg : Nat)) :: (Value.int .i64 (x.at_ : Nat)) :: Li.cellsL cellsE l := rfl
theorem cellsE_app (a b : List E) : Li.cellsL cellsE (a ++ b) = Li.cellsL cellsE a ++ Li.cellsL cellsE b := by unfold Li.cellsL; rw [List.flatMap_append]
theorem cellsE_size (l : List E) : (Li.cellsL cellsE l).length = l.length * 2 := Li.cellsL_len cellsE_len l
theorem cellsE_one : ∀ (l : List E), ∀ v ∈ Li.cellsL cellsE l, v.oneCell' = true
 | [], v, h => by cases h
 | x :: l, v, h => by
  rw [cellsE_cons] at h
  rcases List.mem_cons.1 h with rfl | h
  ·rfl
  rcases List.mem_cons.1 h with rfl | h
  ·rfl
  exact cellsE_one l v h
theorem cellsE_set : ∀ (l : List E) (q : Nat) (e : E), ((Li.cellsL cellsE l).set (q * 2) ((Value.int .i64 (e.pg : Nat)))).set (q * 2 + 1) ((Value.int .i64 (e.at_ : Nat))) = Li.cellsL cellsE (l.set q e)
 | [], q, e => rfl
 | x :: l, 0, e => rfl
 | x :: l, q + 1, e => by
  have h : (q + 1) * 2 = q * 2 + 1 + 1 := by omega
  rw [h]
  show (Value.int .i64 (x.pg : Nat)) :: (Value.int .i64 (x.at_ : Nat)) :: ((Li.cellsL cellsE l).set (q * 2) ((Value.int .i64 (e.pg : Nat)))).set (q * 2 + 1) ((Value.int .i64 (e.at_ : Nat))) = _
  rw [cellsE_set l q e]
  rfl
theorem cellsE_take : ∀ (l : List E) (q : Nat), (Li.cellsL cellsE l).take (q * 2) = Li.cellsL cellsE (l.take q)
 | l, 0 => by simp [Li.cellsL]
 | [], q + 1 => by simp [Li.cellsL]
 | x :: l, q + 1 => by
  have h : (q + 1) * 2 = q * 2 + 1 + 1 := by omega
  rw [h, List.take_succ_cons, cellsE_cons, cellsE_cons, ← cellsE_take l q]
  rfl
theorem cellsE_drop : ∀ (l : List E) (q : Nat), (Li.cellsL cellsE l).drop (q * 2) = Li.cellsL cellsE (l.drop q)
 | l, 0 => by simp
 | [], q + 1 => by simp [Li.cellsL]
 | x :: l, q + 1 => by
  have h : (q + 1) * 2 = q * 2 + 1 + 1 := by omega
  rw [h, List.drop_succ_cons, cellsE_cons, ← cellsE_drop l q]
  rfl
section
variable {w : World} {base g n cp : Nat} {l : List E}
/-- The row itself. -/
theorem own_row (h : OwnE w base (.slice (some ⟨g, 0, none⟩) n cp) n l) : ∃ cur : Array Value, base ≤ g ∧ w.heap[g]? = some (.cells cur 116 (0, 0)) ∧ n ≤ cp ∧ cp ≤ maxLen ∧ cur.size = cp * 2 ∧ cur.toList.take (n * 2) = Li.cellsL cellsE l ∧ (Li.cellsL cellsE l).length = n * 2 := by
 rcases h.2 with ⟨h', _⟩ | ⟨g', cap', cur, h', hb, hg, hnc, hcm, hcs, htake⟩
 ·simp at h'
 ·simp only [Value.slice.injEq, Option.some.injEq, Addr.mk.injEq, and_true, true_and] at h'
  obtain ⟨rfl, rfl⟩ := h'
  exact ⟨cur, hb, hg, hnc, hcm, hcs, htake, h.1⟩
theorem own_of_row {cur : Array Value} (hb : base ≤ g) (hg : w.heap[g]? = some (.cells cur 116 (0, 0))) (hnc : n ≤ cp) (hcm : cp ≤ maxLen) (hcs : cur.size = cp * 2) (hn : l.length = n) (ht : cur.toList.take (n * 2) = Li.cellsL cellsE l) : OwnE w base (.slice (some ⟨g, 0, none⟩) n cp) n l :=
 ⟨by rw [cellsE_size, hn], .inr ⟨g, cp, cur, rfl, hb, hg, hnc, hcm, hcs, ht⟩⟩
theorem own_storeE (h : OwnE w base (.slice (some ⟨g, 0, none⟩) n cp) n l) (q : Nat) (e : E) :
  OwnE (w.setCells g (q * 2) (cellsE e)) base (.slice (some ⟨g, 0, none⟩) n cp) n (l.set q e) := by
 have h3 := ((h.stored (q * 2) ((Value.int .i64 (e.pg : Nat)))).1.stored (q * 2 + 1) ((Value.int .i64 (e.at_ : Nat)))).1
 rw [cellsE_set] at h3
 exact h3
theorem own_weak {v : Value} {base' : Nat} (h : OwnE w base v n l) (hb : base' ≤ base) : OwnE w base' v n l := by
 refine ⟨h.1, ?_⟩
 rcases h.2 with h2 | ⟨k, cap, cur, e1, e2, r⟩
 ·exact Or.inl h2
 ·exact Or.inr ⟨k, cap, cur, e1, Nat.le_trans hb e2, r⟩
theorem grown_below {w w' : World} {base g : Nat} (hg : w.grownBy w' (some g)) (hb : base ≤ g) (hs : base ≤ w.heap.size) : Below base w w' :=
 (Below.refl base w).grown hg hs (fun k hk => by injection hk with hk; omega)
theorem setRow_grown (w : World) (g : Nat) (cs : Array Value) : w.grownBy (w.setRow g cs) (some g) :=
 ⟨rfl, rfl, rfl, by simp [World.setRow], fun k _ hk => setRow_other w g k cs (fun e => hk (by rw [e]))⟩
end
/-- 'copy(d, s)', elements of k cells each. -/
theorem run_copy_rows {P : Program} (w : World) (dT sT ty elem : TypeId) (k g o dLen dCap : Nat) (a : Addr) (sLen sCap : Nat) (cur : Array Value) (t : TypeId) (cs : List Value)
  (hu : P.underlying dT = some (.slice elem)) (hs : (P.info? elem).map (·.size) = some k)
  (hg : w.heap[g]? = some (.cells cur t (0, 0))) (hn : cs.length = Nat.min sLen dLen * k)
  (hsrc : ∀ j v, cs[j]? = some v → w.cell? (a.add j) = some v) (hfit : o + cs.length ≤ cur.size) (h1 : ∀ v ∈ cs, v.oneCell' = true) :
  (Builtin.copy_ #[dT, sT] ty #[.slice (some ⟨g, o, none⟩) dLen dCap, .slice (some a) sLen sCap]).run P w =
   .ok (goInt (Nat.min sLen dLen)) (w.setRow g (cur.toList.take o ++ cs ++ cur.toList.drop (o + cs.length)).toArray) := by
 have hl := run_loadCells_list (P := P) w a cs hsrc
 have hst := run_storeCells_at P g o t cs 0 cur w hg (by simpa using hfit) h1
 simp only [Nat.add_zero] at hst
 cases hq : P.info? elem with
 | none => simp [hq] at hs
 | some i =>
  have hi : i.size = k := by simpa [hq] using hs
  simp [Builtin.copy_, run_underlying hu, Builtin.lenOf, Builtin.firstCells, sizeOf, typeInfo, hq, hi, ← hn, hl, hst]
section
variable {A : Option Addr} {n cp : Nat} {l : List E} {w : World}
set_option maxRecDepth 20000 in
set_option maxHeartbeats 1600000 in
theorem clone_any (lo : Nat) (hl : HasE w lo A l) (hn : l.length = n) (h9 : n ≤ 100000) :
  Calls Tryz.prog 225 #[.slice A n cp] w fun e w' => ∃ v, e = .returned v ∧ OwnE w' w.heap.size v n l ∧ Below w.heap.size w w' := by
 obtain ⟨iE, hiE, hv0, hv1, hv2⟩ := info_parts infoE
 cases A with
 | none =>
  have hl0 : l = [] := by
   rcases l with _ | ⟨x, l⟩
   ·rfl
   ·obtain ⟨b, o, hA, _⟩ := hl (by simp)
    cases hA
  subst hl0
  have hn0 : n = 0 := by simpa using hn.symm
  subst hn0
  have hE := Lib.run_eql_slice_nil (P := Tryz.prog) w 31 116 none 0 cp 0 0 Tryz.underlying31
  go_enter Tryz.func225, Tryz.ntmps225
  go_wp2
  go_ret
  exact ⟨_, rfl, World.ownsRow_nil _ _ _ _, Below.refl _ _⟩
 | some a =>
  have hE := Lib.run_eql_slice_nil (P := Tryz.prog) w 31 116 (some a) n cp 0 0 Tryz.underlying31
  have HC : Hid (∀ j u, (Li.cellsL cellsE l)[j]? = some u → w.cell? (a.add j) = some u) := Lib.hid (fun j u hu => by
   rcases l with _ | ⟨x0, l0⟩
   ·simp [Li.cellsL] at hu
   ·obtain ⟨b, o, hA, _, _, hc⟩ := hl (by simp)
    injection hA with hA
    subst hA
    have hj := (List.getElem?_eq_some_iff.1 hu).1
    rw [cellsE_size] at hj
    have hq : j / 2 < (x0 :: l0).length := by omega
    have hx := List.getElem?_eq_getElem hq
    have hj3 : j % 2 < 2 := Nat.mod_lt _ (by omega)
    obtain ⟨v, hv⟩ : ∃ v, (cellsE ((x0 :: l0)[j / 2]'hq))[j % 2]? = some v := ⟨_, List.getElem?_eq_getElem (by rw [cellsE_len]; exact hj3)⟩
    have h1 := hc (j / 2) _ hx (j % 2) v hv
    have h2 := Li.cellsL_at cellsE_len _ (j / 2) _ hx (j % 2) v hv
    have e3 : j / 2 * 2 + j % 2 = j := by omega
    rw [e3] at h2
    rw [h2] at hu
    injection hu with hu
    subst hu
    rw [Addr.add_lit]
    rw [show o + j / 2 * 2 + j % 2 = o + j by omega] at h1
    exact h1)
  have HN := Lib.hid hn
  have hlen : (Li.cellsL cellsE l).length = n * 2 := by rw [cellsE_size, hn]
  have H1 : Hid (∀ u ∈ Li.cellsL cellsE l, u.oneCell' = true) := Lib.hid (cellsE_one l)
  unfold OwnE
  generalize Li.cellsL cellsE l = cs at HC hlen H1 ⊢
  have HLEN := Lib.hid hlen
  have hempty := World.ownsRow_lit (base := w.heap.size) (e := 116) (size := 2) w #[] 0 (Nat.le_refl _) (by unfold maxLen; omega) rfl
  have HO := Lib.hid (And.intro hempty (And.intro ((Below.refl w.heap.size w).alloc (Nat.le_refl _) (.cells #[] 116)) (fun (x : Addr) (v : Value) (h : w.cell? x = some v) => (show (w.alloc (.cells #[] 116)).cell? x = some v from Lib.cell?_alloc_some _ h))))
  clear hl hn hlen hempty
  go_enter Tryz.func225, Tryz.ntmps225
  go_wp2_with (at_builtin; go_must (refine wpList_append_own _ rfl _ _ 31 rfl w.heap.size 116 iE (.agg #[.int .i64 0, .int .i64 0]) 2 16 Tryz.underlying31 hiE hv0 hv1 hv2 rfl (by decide) _ 0 [] rfl HO.out.1 a n cp cs rfl HLEN.out (fun j u hu => HO.out.2.2 _ _ (HC.out j u hu)) H1.out (by unfold maxLen; omega) (by omega) HO.out.2.1.size ?_))
  intro v5 y5 hown5 hgrow5 _
  have hB5 := HO.out.2.1.grown hgrow5 HO.out.2.1.size (fun k hk => (HO.out.1.lt k hk).1)
  have HF := Lib.hid (And.intro hown5 hB5)
  clear hown5 hB5 hgrow5
  go_wp2
  go_ret
  obtain ⟨h1, h2⟩ := HF.out
  exact ⟨_, rfl, h1, h2⟩
end
end Go.Proofs.YtcgkbcgpnlogoaaGreatDoor.SlI

/- Rows of pages in memory: of one's own, copied, cloned. -/
namespace Go.Proofs.YtcgkbcgpnlogoaaGreatDoor.SlP
open Go.RowKit Pac

abbrev E := St.Pg
def cellsE (e : E) : List Value := [(Value.int .i64 (e.no : Nat)), (Value.string e.data)]
theorem cellsE_len (e : E) : (cellsE e).length = 2 := rfl
abbrev HasE (w : World) (lo : Nat) (A : Option Addr) (l : List E) : Prop := Li.HasL cellsE 2 w lo A l
theorem infoE : (Tryz.prog.info? 133).map (fun i => (i.zero, i.size, i.bytes)) = some (some (.agg #[.int .i64 0, .string ⟨#[]⟩]), 2, 24) := by kernel_rfl
/-- The slice v owns a row that holds these. -/
abbrev OwnE (w : World) (base : Nat) (v : Value) (n : Nat) (l : List E) : Prop := w.ownsRow base 133 2 v n (Li.cellsL cellsE l)
theorem cellsE_cons (x : E) (l : List E) : Li.cellsL cellsE (x :: l) = (Value.int .i64 (x.no : Nat)) :: (Value.string x.data) :: Li.cellsL cellsE l := rfl
theorem cellsE_app (a b : List E) : Li.cellsL cellsE (a ++ b) = Li.cellsL cellsE a ++ Li.cellsL cellsE b := by unfold Li.cellsL; rw [List.flatMap_append]
theorem cellsE_size (l : List E) : (Li.cellsL cellsE l).length = l.length * 2 := Li.cellsL_len cellsE_len l
theorem cellsE_one : ∀ (l : List E), ∀ v ∈ Li.cellsL cellsE l, v.oneCell' = true
 | [], v, h => by cases h
 | x :: l, v, h => by
  rw [cellsE_cons] at h
  rcases List.mem_cons.1 h with rfl | h
  ·rfl
  rcases List.mem_cons.1 h with rfl | h
  ·rfl
  exact cellsE_one l v h
theorem cellsE_set : ∀ (l : List E) (q : Nat) (e : E), ((Li.cellsL cellsE l).set (q * 2) ((Value.int .i64 (e.no : Nat)))).set (q * 2 + 1) ((Value.string e.data)) = Li.cellsL cellsE (l.set q e)
 | [], q, e => rfl
 | x :: l, 0, e => rfl
 | x :: l, q + 1, e => by
  have h : (q + 1) * 2 = q * 2 + 1 + 1 := by omega
  rw [h]
  show (Value.int .i64 (x.no : Nat)) :: (Value.string x.data) :: ((Li.cellsL cellsE l).set (q * 2) ((Value.int .i64 (e.no : Nat)))).set (q * 2 + 1) ((Value.string e.data)) = _
  rw [cellsE_set l q e]
  rfl
theorem cellsE_take : ∀ (l : List E) (q : Nat), (Li.cellsL cellsE l).take (q * 2) = Li.cellsL cellsE (l.take q)
 | l, 0 => by simp [Li.cellsL]
 | [], q + 1 => by simp [Li.cellsL]
 | x :: l, q + 1 => by
  have h : (q + 1) * 2 = q * 2 + 1 + 1 := by omega
  rw [h, List.take_succ_cons, cellsE_cons, cellsE_cons, ← cellsE_take l q]
  rfl
theorem cellsE_drop : ∀ (l : List E) (q : Nat), (Li.cellsL cellsE l).drop (q * 2) = Li.cellsL cellsE (l.drop q)
 | l, 0 => by simp
 | [], q + 1 => by simp [Li.cellsL]
 | x :: l, q + 1 => by
  have h : (q + 1) * 2 = q * 2 + 1 + 1 := by omega
  rw [h, List.drop_succ_cons, cellsE_cons, ← cellsE_drop l q]
  rfl
section
variable {w : World} {base g n cp : Nat} {l : List E}
/-- The row itself. -/
theorem own_row (h : OwnE w base (.slice (some ⟨g, 0, none⟩) n cp) n l) : ∃ cur : Array Value, base ≤ g ∧ w.heap[g]? = some (.cells cur 133 (0, 0)) ∧ n ≤ cp ∧ cp ≤ maxLen ∧ cur.size = cp * 2 ∧ cur.toList.take (n * 2) = Li.cellsL cellsE l ∧ (Li.cellsL cellsE l).length = n * 2 := by
 rcases h.2 with ⟨h', _⟩ | ⟨g', cap', cur, h', hb, hg, hnc, hcm, hcs, htake⟩
 ·simp at h'
 ·simp only [Value.slice.injEq, Option.some.injEq, Addr.mk.injEq, and_true, true_and] at h'
  obtain ⟨rfl, rfl⟩ := h'
  exact ⟨cur, hb, hg, hnc, hcm, hcs, htake, h.1⟩
theorem own_of_row {cur : Array Value} (hb : base ≤ g) (hg : w.heap[g]? = some (.cells cur 133 (0, 0))) (hnc : n ≤ cp) (hcm : cp ≤ maxLen) (hcs : cur.size = cp * 2) (hn : l.length = n) (ht : cur.toList.take (n * 2) = Li.cellsL cellsE l) : OwnE w base (.slice (some ⟨g, 0, none⟩) n cp) n l :=
 ⟨by rw [cellsE_size, hn], .inr ⟨g, cp, cur, rfl, hb, hg, hnc, hcm, hcs, ht⟩⟩
theorem own_storeE (h : OwnE w base (.slice (some ⟨g, 0, none⟩) n cp) n l) (q : Nat) (e : E) :
  OwnE (w.setCells g (q * 2) (cellsE e)) base (.slice (some ⟨g, 0, none⟩) n cp) n (l.set q e) := by
 have h3 := ((h.stored (q * 2) ((Value.int .i64 (e.no : Nat)))).1.stored (q * 2 + 1) ((Value.string e.data))).1
 rw [cellsE_set] at h3
 exact h3
theorem own_weak {v : Value} {base' : Nat} (h : OwnE w base v n l) (hb : base' ≤ base) : OwnE w base' v n l := by
 refine ⟨h.1, ?_⟩
 rcases h.2 with h2 | ⟨k, cap, cur, e1, e2, r⟩
 ·exact Or.inl h2
 ·exact Or.inr ⟨k, cap, cur, e1, Nat.le_trans hb e2, r⟩
theorem grown_below {w w' : World} {base g : Nat} (hg : w.grownBy w' (some g)) (hb : base ≤ g) (hs : base ≤ w.heap.size) : Below base w w' :=
 (Below.refl base w).grown hg hs (fun k hk => by injection hk with hk; omega)
theorem setRow_grown (w : World) (g : Nat) (cs : Array Value) : w.grownBy (w.setRow g cs) (some g) :=
 ⟨rfl, rfl, rfl, by simp [World.setRow], fun k _ hk => setRow_other w g k cs (fun e => hk (by rw [e]))⟩
end
/-- 'copy(d, s)', elements of k cells each. -/
theorem run_copy_rows {P : Program} (w : World) (dT sT ty elem : TypeId) (k g o dLen dCap : Nat) (a : Addr) (sLen sCap : Nat) (cur : Array Value) (t : TypeId) (cs : List Value)
  (hu : P.underlying dT = some (.slice elem)) (hs : (P.info? elem).map (·.size) = some k)
  (hg : w.heap[g]? = some (.cells cur t (0, 0))) (hn : cs.length = Nat.min sLen dLen * k)
  (hsrc : ∀ j v, cs[j]? = some v → w.cell? (a.add j) = some v) (hfit : o + cs.length ≤ cur.size) (h1 : ∀ v ∈ cs, v.oneCell' = true) :
  (Builtin.copy_ #[dT, sT] ty #[.slice (some ⟨g, o, none⟩) dLen dCap, .slice (some a) sLen sCap]).run P w =
   .ok (goInt (Nat.min sLen dLen)) (w.setRow g (cur.toList.take o ++ cs ++ cur.toList.drop (o + cs.length)).toArray) := by
 have hl := run_loadCells_list (P := P) w a cs hsrc
 have hst := run_storeCells_at P g o t cs 0 cur w hg (by simpa using hfit) h1
 simp only [Nat.add_zero] at hst
 cases hq : P.info? elem with
 | none => simp [hq] at hs
 | some i =>
  have hi : i.size = k := by simpa [hq] using hs
  simp [Builtin.copy_, run_underlying hu, Builtin.lenOf, Builtin.firstCells, sizeOf, typeInfo, hq, hi, ← hn, hl, hst]
section
variable {A : Option Addr} {n cp : Nat} {l : List E} {w : World}
set_option maxRecDepth 20000 in
set_option maxHeartbeats 1600000 in
theorem clone_any (lo : Nat) (hl : HasE w lo A l) (hn : l.length = n) (h9 : n ≤ 100000) :
  Calls Tryz.prog 197 #[.slice A n cp] w fun e w' => ∃ v, e = .returned v ∧ OwnE w' w.heap.size v n l ∧ Below w.heap.size w w' := by
 obtain ⟨iE, hiE, hv0, hv1, hv2⟩ := info_parts infoE
 cases A with
 | none =>
  have hl0 : l = [] := by
   rcases l with _ | ⟨x, l⟩
   ·rfl
   ·obtain ⟨b, o, hA, _⟩ := hl (by simp)
    cases hA
  subst hl0
  have hn0 : n = 0 := by simpa using hn.symm
  subst hn0
  have hE := Lib.run_eql_slice_nil (P := Tryz.prog) w 32 133 none 0 cp 0 0 Tryz.underlying32
  go_enter Tryz.func197, Tryz.ntmps197
  go_wp2
  go_ret
  exact ⟨_, rfl, World.ownsRow_nil _ _ _ _, Below.refl _ _⟩
 | some a =>
  have hE := Lib.run_eql_slice_nil (P := Tryz.prog) w 32 133 (some a) n cp 0 0 Tryz.underlying32
  have HC : Hid (∀ j u, (Li.cellsL cellsE l)[j]? = some u → w.cell? (a.add j) = some u) := Lib.hid (fun j u hu => by
   rcases l with _ | ⟨x0, l0⟩
   ·simp [Li.cellsL] at hu
   ·obtain ⟨b, o, hA, _, _, hc⟩ := hl (by simp)
    injection hA with hA
    subst hA
    have hj := (List.getElem?_eq_some_iff.1 hu).1
    rw [cellsE_size] at hj
    have hq : j / 2 < (x0 :: l0).length := by omega
    have hx := List.getElem?_eq_getElem hq
    have hj3 : j % 2 < 2 := Nat.mod_lt _ (by omega)
    obtain ⟨v, hv⟩ : ∃ v, (cellsE ((x0 :: l0)[j / 2]'hq))[j % 2]? = some v := ⟨_, List.getElem?_eq_getElem (by rw [cellsE_len]; exact hj3)⟩
    have h1 := hc (j / 2) _ hx (j % 2) v hv
    have h2 := Li.cellsL_at cellsE_len _ (j / 2) _ hx (j % 2) v hv
    have e3 : j / 2 * 2 + j % 2 = j := by omega
    rw [e3] at h2
    rw [h2] at hu
    injection hu with hu
    subst hu
    rw [Addr.add_lit]
    rw [show o + j / 2 * 2 + j % 2 = o + j by omega] at h1
    exact h1)
  have HN := Lib.hid hn
  have hlen : (Li.cellsL cellsE l).length = n * 2 := by rw [cellsE_size, hn]
  have H1 : Hid (∀ u ∈ Li.cellsL cellsE l, u.oneCell' = true) := Lib.hid (cellsE_one l)
  unfold OwnE
  generalize Li.cellsL cellsE l = cs at HC hlen H1 ⊢
  have HLEN := Lib.hid hlen
  have hempty := World.ownsRow_lit (base := w.heap.size) (e := 133) (size := 2) w #[] 0 (Nat.le_refl _) (by unfold maxLen; omega) rfl
  have HO := Lib.hid (And.intro hempty (And.intro ((Below.refl w.heap.size w).alloc (Nat.le_refl _) (.cells #[] 133)) (fun (x : Addr) (v : Value) (h : w.cell? x = some v) => (show (w.alloc (.cells #[] 133)).cell? x = some v from Lib.cell?_alloc_some _ h))))
  clear hl hn hlen hempty
  go_enter Tryz.func197, Tryz.ntmps197
  go_wp2_with (at_builtin; go_must (refine wpList_append_own _ rfl _ _ 32 rfl w.heap.size 133 iE (.agg #[.int .i64 0, .string ⟨#[]⟩]) 2 24 Tryz.underlying32 hiE hv0 hv1 hv2 rfl (by decide) _ 0 [] rfl HO.out.1 a n cp cs rfl HLEN.out (fun j u hu => HO.out.2.2 _ _ (HC.out j u hu)) H1.out (by unfold maxLen; omega) (by omega) HO.out.2.1.size ?_))
  intro v5 y5 hown5 hgrow5 _
  have hB5 := HO.out.2.1.grown hgrow5 HO.out.2.1.size (fun k hk => (HO.out.1.lt k hk).1)
  have HF := Lib.hid (And.intro hown5 hB5)
  clear hown5 hB5 hgrow5
  go_wp2
  go_ret
  obtain ⟨h1, h2⟩ := HF.out
  exact ⟨_, rfl, h1, h2⟩
end
end Go.Proofs.YtcgkbcgpnlogoaaGreatDoor.SlP

/- Stores in memory: devices, lists and clocks apart from the variables of a walk. -/
namespace Go.Proofs.YtcgkbcgpnlogoaaGreatDoor.St
open Go.RowKit Go.Shelf Tal Sla Hd Fr Lf Fv

/-- A variable that begins so is none of a device's blocks. -/
def kindD : List Value → Bool
 | .slice _ _ _ :: _ => true
 | .int _ _ :: .int _ _ :: _ => true
 | _ => false
def kinds : List V → Bool
 | [] => true
 | (_, _, cs) :: r => kindD cs && kinds r
/-- The value tells the device; its blocks are no variables. -/
def DevF (v : Value) (D : Dev) : Fact := fun L w => ∃ b B, DevAt w b B v D ∧ Free L w b ∧ ∀ a, B = some a → Free L w a.block
section
variable {w0 W W' : World} {vs : List V} {Φ : Fact} {v : Value} {D : Dev} {L L' : List Nat}
theorem cell_ext (h : Ext L W L' W') {b i : Nat} (hb : Free L W b) : W'.cell? ⟨b, i, none⟩ = W.cell? ⟨b, i, none⟩ := World.cell?_of_block (w := W) (h.block b hb)
theorem DevF.ext (h : DevF v D L W) (k : Ext L W L' W') : DevF v D L' W' := by
 obtain ⟨b, B, ⟨c, m, e, hb, hn, hc, hl, h0⟩, h1, h2⟩ := h
 refine ⟨b, B, ⟨c, m, e, (k.free _ h1).1, hn, fun j hj => (cell_ext k h1).trans (hc j hj), fun hm => ?_, h0⟩, k.free _ h1, fun a ha => k.free _ (h2 a ha)⟩
 obtain ⟨q, hB, hq, hc2⟩ := hl hm
 have hf : Free L W q := h2 ⟨q, 0, none⟩ hB
 exact ⟨q, hB, (k.free _ hf).1, fun j hj => ⟨(cell_ext k hf).trans (hc2 j hj).1, (cell_ext k hf).trans (hc2 j hj).2⟩⟩
theorem DevF.dev (h : DevF v D L W) : IsDev W v D := by
 obtain ⟨b, B, h, _⟩ := h
 exact ⟨b, B, h⟩
theorem kinds_mem : ∀ {vs : List V}, kinds vs = true → ∀ x ∈ vs, kindD x.2.2 = true
 | (g, t, cs) :: r, h, x, hx => by
  have h : (kindD cs && kinds r) = true := h
  rw [Bool.and_eq_true] at h
  rcases List.mem_cons.1 hx with rfl | hx
  ·exact h.1
  ·exact kinds_mem h.2 x hx
theorem kindD_cases {cs : List Value} (h : kindD cs = true) : (∃ A n c r, cs = .slice A n c :: r) ∨ ∃ k i q j r, cs = .int k i :: .int q j :: r := by
 match cs, h with
 | .slice A n c :: r, _ => exact Or.inl ⟨A, n, c, r, rfl⟩
 | .int k i :: .int q j :: r, _ => exact Or.inr ⟨k, i, q, j, r, rfl⟩
theorem devF_of (F : Fr w0 W vs Φ) (hd : IsDev W v D) (hn : 1 ≤ D.n) (hk : kinds vs = true) : DevF v D (vs.map (·.1)) W := by
 obtain ⟨b, B, h⟩ := hd
 have hlt := h.lt
 have h' := h
 obtain ⟨c, m, e, hb, hnc, hc, hl, h0⟩ := h
 refine ⟨b, B, h', ⟨hb, fun hm => ?_⟩, fun a ha => ⟨hlt.2 a ha, fun hm => ?_⟩⟩
 ·obtain ⟨x, hx, rfl⟩ := List.mem_map.1 hm
  have hx2 := (F.at_ x hx).2
  have h0 := hc 0 (by omega)
  rw [cell_of_row W _ _ _ _ _ hx2] at h0
  rcases kindD_cases (kinds_mem hk x hx) with ⟨A, n, c, r, e⟩ | ⟨k, i, q, j, r, e⟩ <;> rw [e] at h0 <;> simp at h0
 ·obtain ⟨x, hx, hxa⟩ := List.mem_map.1 hm
  have hx2 := (F.at_ x hx).2
  rw [hxa] at hx2
  rcases Nat.eq_zero_or_pos D.m with hm0 | hm0
  ·rw [(h0 hm0).1] at ha
   cases ha
  ·obtain ⟨q, hB, hq, hc2⟩ := hl hm0
   rw [hB] at ha
   injection ha with ha
   subst ha
   obtain ⟨c1, c2⟩ := hc2 0 hm0
   rw [cell_of_row W _ _ _ _ _ hx2] at c1 c2
   rcases kindD_cases (kinds_mem hk x hx) with ⟨A, n, c, r, e⟩ | ⟨k, i, q, j, r, e⟩ <;> rw [e] at c1 c2 <;> simp at c1 c2
theorem addDev (F : Fr w0 W vs Φ) (hd : IsDev W v D) (hn : 1 ≤ D.n) (hk : kinds vs = true) : Fr w0 W vs (fun L w => Φ L w ∧ DevF v D L w) :=
 F.add fun _ _ k => (devF_of F hd hn hk).ext k
end
section
variable {P : Program} {fn : Func} {tmps : Array Value} {p q r : Tmp} {t t2 : TypeId} {n n2 : Nat} {w0 w : World} {vs : List V} {Φ : Fact} {g g2 : Nat} {cs cs2 : List Value}
theorem load_var (F : Fr w0 w vs Φ) (hr : RowTy P t n) (ha : At vs g cs) (hl : cs.length = n) : (loadVar t ⟨g, 0, none⟩).run P w = .ok (.agg cs.toArray) w := by
 obtain ⟨d, hu, hd⟩ := hr.u
 exact run_loadVar_mid w g 0 t cs d (fun j v hj => by rw [F.cell ha, Nat.zero_add]; exact hj) hu hd (by rw [hl]; exact hr.i)
theorem res_cT (F : Fr w0 w vs Φ) (h : fn.results = #[.cell p t, .tmp q]) (hp : tmps.getD p undef = .pointer (some ⟨g, 0, none⟩)) (hr : RowTy P t n) (ha : At vs g cs) (hl : cs.length = n) :
  (results fn tmps).run P w = .ok (.tuple #[.agg cs.toArray, tmps.getD q undef]) w := by
 have hp' : tmps[p]?.getD undef = .pointer (some ⟨g, 0, none⟩) := by simpa using hp
 simp [results, h, Sem.run_bind, hp', asAddr, load_var F hr ha hl]
theorem res_cTT (F : Fr w0 w vs Φ) (h : fn.results = #[.cell p t, .tmp q, .tmp r]) (hp : tmps.getD p undef = .pointer (some ⟨g, 0, none⟩)) (hr : RowTy P t n) (ha : At vs g cs) (hl : cs.length = n) :
  (results fn tmps).run P w = .ok (.tuple #[.agg cs.toArray, tmps.getD q undef, tmps.getD r undef]) w := by
 have hp' : tmps[p]?.getD undef = .pointer (some ⟨g, 0, none⟩) := by simpa using hp
 simp [results, h, Sem.run_bind, hp', asAddr, load_var F hr ha hl]
theorem res_ccT (F : Fr w0 w vs Φ) (h : fn.results = #[.cell p t, .cell q t2, .tmp r]) (hp : tmps.getD p undef = .pointer (some ⟨g, 0, none⟩)) (hr : RowTy P t n) (ha : At vs g cs) (hl : cs.length = n)
  (hq : tmps.getD q undef = .pointer (some ⟨g2, 0, none⟩)) (hr2 : RowTy P t2 n2) (ha2 : At vs g2 cs2) (hl2 : cs2.length = n2) :
  (results fn tmps).run P w = .ok (.tuple #[.agg cs.toArray, .agg cs2.toArray, tmps.getD r undef]) w := by
 have hp' : tmps[p]?.getD undef = .pointer (some ⟨g, 0, none⟩) := by simpa using hp
 have hq' : tmps[q]?.getD undef = .pointer (some ⟨g2, 0, none⟩) := by simpa using hq
 simp [results, h, Sem.run_bind, hp', hq', asAddr, load_var F hr ha hl, load_var F hr2 ha2 hl2]
theorem res_c (F : Fr w0 w vs Φ) (h : fn.results = #[.cell p t]) (hp : tmps.getD p undef = .pointer (some ⟨g, 0, none⟩)) (hr : RowTy P t n) (ha : At vs g cs) (hl : cs.length = n) :
  (results fn tmps).run P w = .ok (.agg cs.toArray) w := by
 have hp' : tmps[p]?.getD undef = .pointer (some ⟨g, 0, none⟩) := by simpa using hp
 simp [results, h, Sem.run_bind, hp', asAddr, load_var F hr ha hl]
end
end Go.Proofs.YtcgkbcgpnlogoaaGreatDoor.St

/- Devices that have power for good, plainly: what a sector holds, whether sure or not yet. No program. -/
namespace Go.Proofs.YtcgkbcgpnlogoaaGreatDoor.St
open Go.RowKit Go.Shelf Tal Sla Hd Fr Lf
/-- A device with power for good, of which sector j holds V j. -/
structure Live (D : Dev) (V : Nat → ByteArray) : Prop where
 dead : D.dead = false
 left : D.left = -1
 v : ∀ j : Nat, Sla.look D.LA D.LD j (D.S j) D.m = V j
/-- What sectors hold behind a write. -/
def setV (V : Nat → ByteArray) (x : Int) (d : ByteArray) : Nat → ByteArray := fun j => if x = (j : Int) then d else V j
section
variable {D : Dev} {V : Nat → ByteArray} {h : H} {d : ByteArray} {x : Int}
theorem Live.pow (l : Live D V) : D.pow = true := by
 unfold Dev.pow
 rw [l.dead, l.left]
 rfl
theorem Live.up (l : Live D V) : Live D.up V := ⟨l.dead, by show lessLeft D.left = -1; rw [l.left]; rfl, l.v⟩
theorem Live.get (l : Live D V) (q : Nat) : getR D q = (D.up, V q, 0) := by
 unfold getR
 rw [if_pos l.pow, l.v q]
theorem look_lt (LA : Nat → Int) (LD : Nat → ByteArray) (m : Nat) (x : Int) (d s : ByteArray) (j : Int) : ∀ k, k ≤ m → Sla.look (snocI LA m x) (snocD LD m d) j s k = Sla.look LA LD j s k
 | 0, _ => rfl
 | k + 1, hk => by
  have hne : ¬ k = m := by omega
  show (if snocI LA m x k = j then snocD LD m d k else Sla.look (snocI LA m x) (snocD LD m d) j s k) = (if LA k = j then LD k else Sla.look LA LD j s k)
  rw [look_lt LA LD m x d s j k (by omega), show snocI LA m x k = LA k from if_neg hne, show snocD LD m d k = LD k from if_neg hne]
theorem Live.put (l : Live D V) (x : Int) (hd : d.size = 256) : putR D x d = (D.putAt x d, 0) ∧ Live (D.putAt x d) (setV V x d) := by
 refine ⟨if_pos l.pow, l.dead, ?_, fun j => ?_⟩
 ·show lessLeft D.left = -1
  rw [l.left]
  rfl
 ·show (if snocI D.LA D.m x D.m = (j : Int) then snocD D.LD D.m (padB d) D.m else Sla.look (snocI D.LA D.m x) (snocD D.LD D.m (padB d)) j (D.S j) D.m) = setV V x d j
  rw [look_lt _ _ _ _ _ _ _ _ (Nat.le_refl _), l.v j, show snocI D.LA D.m x D.m = x from if_pos rfl, show snocD D.LD D.m (padB d) D.m = padB d from if_pos rfl, pad_full hd]
  rfl
theorem flush_look (S : Nat → ByteArray) (LA : Nat → Int) (LD : Nat → ByteArray) (j : Nat) : ∀ k, flushS S LA LD k j = Sla.look LA LD j (S j) k
 | 0 => rfl
 | k + 1 => by
  show (if LA k = (j : Int) then LD k else flushS S LA LD k j) = (if LA k = (j : Int) then LD k else Sla.look LA LD j (S j) k)
  rw [flush_look S LA LD j k]
theorem Live.flush (l : Live D V) : flushR D = (D.flushed, 0) ∧ Live D.flushed V ∧ D.flushed.m = 0 := by
 refine ⟨if_pos l.pow, ⟨l.dead, ?_, fun j => ?_⟩, rfl⟩
 ·show lessLeft D.left = -1
  rw [l.left]
  rfl
 ·show flushS D.S D.LA D.LD D.m j = V j
  rw [flush_look, l.v j]
theorem Live.head (l : Live D V) (hr : RightH h) : ∃ D', putH D h = (D', 0) ∧ Live D' (putS V h) ∧ D'.m = 0 := by
 obtain ⟨e1, l1⟩ := l.put (h.e % 2) (headB_size h)
 obtain ⟨e2, l2, e3⟩ := l1.flush
 refine ⟨_, ?_, l2, e3⟩
 unfold putH
 rw [if_pos hr, e1, if_pos rfl, e2]
/-- What is got of a live device. -/
theorem Live.frame (l : Live D V) {f : F} {i : Nat} (hf : RightF f) (he : f.e = h.e) (hi : f.i = i) (hv : V (logN h i) = frameB f) : frameR D h i = (D.up, f, 0) := by
 unfold frameR
 rw [l.get, hv, Fr.parse_own hf, if_neg (by simp)]
 simp only
 rw [if_pos ⟨he, hi⟩]
theorem Live.log (l : Live D V) {t : ByteArray} {m : Im} (hf : RightF ⟨h.e, (m.at_ : Nat), false, (m.pg : Nat), t⟩) (hv : V (logN h m.at_) = frameB ⟨h.e, (m.at_ : Nat), false, (m.pg : Nat), t⟩) : logR D h m = (D.up, t, 0) := by
 unfold logR
 rw [l.frame hf rfl rfl hv, if_neg (by simp), if_neg (by simp)]
theorem Live.home (l : Live D V) {t : ByteArray} {no : Nat} (hv : (t.size = 200 ∧ V (homeN no) = leafB no t) ∨ (t = zeros 200 ∧ parseL (V (homeN no)) no = none)) : homeR D no = (D.up, t, 0) := by
 unfold homeR
 rw [l.get, if_neg (by simp)]
 rcases hv with ⟨h1, h2⟩ | ⟨h1, h2⟩
 ·rw [h2, Lf.parse_own h1]
  rfl
 ·rw [h2, h1]
  rfl
end
end Go.Proofs.YtcgkbcgpnlogoaaGreatDoor.St
