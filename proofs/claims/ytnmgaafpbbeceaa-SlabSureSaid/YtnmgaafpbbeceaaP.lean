/- The document's examples: awake. -/
import Derived.Test.YtnmgaafpbbeceaaN
namespace Go.Proofs.Ytnmgaafpbbeceaa
open Go.RowKit Go.Shelf

def sab : ByteArray := ⟨#[97, 98]⟩
def sxyz : ByteArray := ⟨#[120, 121, 122]⟩
def sxb : ByteArray := ⟨#[120, 98]⟩
theorem ex_torn : laidB (padB sab) ((padB sxyz).extract 0 1) = padB sxb := by decide +kernel
theorem ex_none : laidB (padB sab) ((padB sxyz).extract 0 0) = padB sab := by decide +kernel
theorem ex_all : laidB (padB sab) ((padB sxyz).extract 0 256) = padB sxyz := by decide +kernel

def dv1 : Dev := (fresh 2).putAt 1 sab
def dv2 : Dev := dv1.flushed
def dv3 : Dev := dv2.putAt 1 sxyz
theorem ok0 : (fresh 2).Ok 0 := fresh_ok 2 (by omega) (by omega)
theorem has_1 : ∀ D : Dev, D.n = 2 → D.has 1 = true := fun D h => by unfold Dev.has; rw [h]; rfl
theorem has_2 : ∀ D : Dev, D.n = 2 → D.has 2 = false := fun D h => by unfold Dev.has; rw [h]; rfl
theorem ok1 : dv1.Ok 1 := ok0.put 1 sab (has_1 _ rfl) (by decide)
theorem ok2 : dv2.Ok 2 := ok1.flushed
theorem ok3 : dv3.Ok 3 := ok2.put 1 sxyz (has_1 _ rfl) (by decide)
theorem lz3 : (dv3.LD 0).size = 256 := ok3.lz 0 (by decide)
theorem ld1 : dv1.LD 0 = padB sab := by
  show snocD (fresh 2).LD (fresh 2).m (padB sab) 0 = padB sab
  unfold snocD
  exact if_pos rfl
theorem la1 : dv1.LA 0 = 1 := by
  show snocI (fresh 2).LA (fresh 2).m 1 0 = 1
  unfold snocI
  exact if_pos rfl
theorem fl2 : dv2.S 1 = padB sab := by
  show (if dv1.LA 0 = ((1 : Nat) : Int) then dv1.LD 0 else flushS dv1.S dv1.LA dv1.LD 0 1) = padB sab
  rw [la1, ld1]
  exact if_pos rfl
theorem fl3 : dv3.S 1 = padB sab := fl2
theorem ld3 : dv3.LD 0 = padB sxyz := by
  show snocD dv2.LD dv2.m (padB sxyz) 0 = padB sxyz
  unfold snocD
  exact if_pos rfl
theorem la3 : dv3.LA 0 = 1 := by
  show snocI dv2.LA dv2.m 1 0 = 1
  unfold snocI
  exact if_pos rfl
theorem m3 : dv3.m = 1 := rfl
theorem look3 : look dv3.LA dv3.LD ((1 : Nat) : Int) (dv3.S 1) dv3.m = padB sxyz := by
  rw [m3]
  simp only [look]
  rw [la3, ld3]
  exact if_pos rfl
theorem started_S (D : Dev) (f : Fat) (j : Nat) : (D.started f).S j = startS f D.S D.LA D.LD D.m j := rfl
theorem st3 (f : Fat) : (dv3.started f).S 1 = laidB (padB sab) ((padB sxyz).extract 0 (keptN f 0 256)) := by
  rw [started_S, m3]
  simp only [startS]
  rw [lz3, la3, ld3, fl3]
  exact if_pos rfl
theorem st_torn : (dv3.started ⟨0, 0, 1⟩).S 1 = padB sxb := by rw [st3]; exact ex_torn
theorem st_none : (dv3.started ⟨0, -1, 0⟩).S 1 = padB sab := by rw [st3]; exact ex_none
theorem st_all : (dv3.started ⟨1, -1, 0⟩).S 1 = padB sxyz := by rw [st3]; exact ex_all
theorem sz_ab : sab.size ≤ 256 := by decide
theorem sz_xyz : sxyz.size ≤ 256 := by decide
def dx : Dev := dv3.up
def dt : Dev := dv3.started ⟨0, 0, 1⟩
def du : Dev := dv3.started ⟨0, -1, 0⟩
def dw : Dev := dv3.started ⟨1, -1, 0⟩
def da : Dev := armed dv3 0
def dy : Dev := da.down
theorem dt_S : dt.S 1 = padB sxb := st_torn
theorem du_S : du.S 1 = padB sab := st_none
theorem dw_S : dw.S 1 = padB sxyz := st_all
end Go.Proofs.Ytnmgaafpbbeceaa
