/- Pages at hand in a variable; the document's examples of layer 15, walked. -/
import Derived.Test.YtjjedadhkdpceaaClN
import Derived.Laws.Cover4
namespace Go.Proofs.Ytjjedadhkdpceaa.Cl
open Go.RowKit Pac Lex

def ck (q : Nat) : ByteArray := ⟨#[UInt8.ofNat (97 + q)]⟩
theorem ck_enc : ∀ q : Nat, q < 8 → Utf8.encode (97 + (q : Int)) = ck q
  | 0, _ => by kernel_rfl
  | 1, _ => by kernel_rfl
  | 2, _ => by kernel_rfl
  | 3, _ => by kernel_rfl
  | 4, _ => by kernel_rfl
  | 5, _ => by kernel_rfl
  | 6, _ => by kernel_rfl
  | 7, _ => by kernel_rfl
  | q + 8, h => absurd h (by omega)
theorem ck_size (q : Nat) : (ck q).size = 1 := rfl
def aw : Nat → C
  | 0 => ⟨[], 0⟩
  | q + 1 => putC (aw q) (q : Int) (ck q)
theorem aw_ok : ∀ q, q ≤ 8 → Ok 0 (aw q)
  | 0, _ => ok_none
  | q + 1, h => (aw_ok q (by omega)).put (by rw [ck_size]; omega) (by omega) (by omega)
def awD : C := (pinC (aw 8) 0 true).1
def awE : C := putC awD 9 ⟨#[122]⟩
theorem aw_len : (aw 8).l.length = 8 := by decide +kernel
theorem awD_ok : Ok 1 awD := (aw_ok 8 (by omega)).pins 0 true
theorem awE_ok : Ok 1 awE := awD_ok.put (by decide) (by omega) (by omega)
theorem aw_pin : (pinC (aw 8) 0 true).2 = true := by decide +kernel
theorem awE_len : awE.l.length = 8 := by decide +kernel
theorem awE_h : awE.h = 2 := by decide +kernel
theorem awE_f0 : findL awE.l 0 = some 0 := by decide +kernel
theorem awE_f9 : findL awE.l 9 = some 1 := by decide +kernel
theorem awE_f1 : findL awE.l 1 = none := by decide +kernel
theorem awE_sum : sumP awE.l = 1 := by decide +kernel
theorem awE_get : (getC awE 9).2.1 = ⟨#[122]⟩ ∧ (getC awE 9).2.2 = true := ⟨by kernel_rfl, by decide +kernel⟩
theorem awE_free : (pinC awE 0 false).2 = true ∧ sumP (pinC awE 0 false).1.l = 0 ∧ (pinC awE 0 false).1.l.length = 8 := by decide +kernel
theorem awE_no : (pinC awE 20 true).2 = false := by decide +kernel
theorem awE_gone : (getC awE 1).2.2 = false := by decide +kernel
theorem Ok.may {m : Nat} {c : C} (h : Ok m c) : MayC (c.h : Nat) c.l := ⟨fun i p hp => ⟨(h.fine p (List.mem_of_getElem? hp)).p0, find_own h.nd hp⟩, h.len, by omega, by rcases h.hand with e | e <;> omega⟩
/-- A variable that holds pages at hand. -/
structure VarC (W : World) (g : Nat) (A : Option Addr) (n cp : Nat) (c : C) (X : Nat → Prop) : Prop where
  b : Box2 W g (.slice A n cp) (.int .i64 c.h)
  hn : c.l.length = n
  hc : n ≤ cp
  hl : HasPX W X A cp c.l
section
variable {W W' : World} {g q n cp : Nat} {A : Option Addr} {c : C} {X Y : Nat → Prop}
theorem VarC.below (h : VarC W g A n cp c X) (hb : Below W.heap.size W W') : VarC W' g A n cp c X := ⟨h.b.below hb h.b.lt, h.hn, h.hc, h.hl.below hb (Nat.le_refl _)⟩
theorem VarC.bar (h : VarC W g A n cp c X) (hb : Bar q W W') (hne : g ≠ q) (hx : ¬ X q) : VarC W' g A n cp c X := ⟨h.b.bar hb hne, h.hn, h.hc, h.hl.bar hx hb⟩
theorem VarC.mono (h : VarC W g A n cp c X) (hXY : ∀ b, X b → Y b) : VarC W g A n cp c Y := ⟨h.b, h.hn, h.hc, h.hl.mono hXY⟩
/-- Past a new block, which no list lies in. -/
theorem VarC.new (h : VarC W g A n cp c X) (O : Obj) : VarC (W.alloc O) g A n cp c (fun b => X b ∧ b ≠ W.heap.size) :=
  have h1 := (h.hl.lt.mono (fun b h => (⟨h.1, Nat.ne_of_lt h.2⟩ : X b ∧ b ≠ W.heap.size))).below ((Below.refl W.heap.size W).alloc (Nat.le_refl _) O) (Nat.le_refl _)
  ⟨h.b.below ((Below.refl W.heap.size W).alloc (Nat.le_refl _) O) h.b.lt, h.hn, h.hc, h1⟩
/-- What a call answered is stored. -/
theorem varC_store {v0 v1 : Value} {k : Nat} (hx : Box2 W g v0 v1) (hn : c.l.length = n) (hc : n ≤ cp) (hl : HasPX W (fun b => X b ∨ k ≤ b) A cp c.l) (hg : g < k) (hX : ¬ X g) : VarC ((W.setCell ⟨g, 0, none⟩ (.slice A n cp)).setCell ⟨g, 1, none⟩ (.int .i64 c.h)) g A n cp c (fun b => X b ∨ k ≤ b) :=
  ⟨(hx.set0 _).set1 _, hn, hc, hl.bar (fun h => by rcases h with h | h; exact hX h; omega) (((Bar.refl g W).setCell 0 (.slice A n cp)).setCell 1 (.int .i64 c.h))⟩
/-- A new variable, with what a call answered. -/
theorem varC_new (hn : c.l.length = n) (hc : n ≤ cp) (hl : HasPX W X A cp c.l) (t : TypeId) : VarC (W.alloc (.cells #[.slice A n cp, .int .i64 c.h] t)) W.heap.size A n cp c (fun b => X b ∧ b ≠ W.heap.size) :=
  ⟨Box2.new W (.slice A n cp) (.int .i64 c.h) t, hn, hc, (hl.lt.mono (fun b h => (⟨h.1, Nat.ne_of_lt h.2⟩ : X b ∧ b ≠ W.heap.size))).below ((Below.refl W.heap.size W).alloc (Nat.le_refl _) _) (Nat.le_refl _)⟩
theorem bar2 (W : World) (g : Nat) (a b : Value) : Bar g W ((W.setCell ⟨g, 0, none⟩ a).setCell ⟨g, 1, none⟩ b) := ((Bar.refl g W).setCell 0 a).setCell 1 b
end
set_option maxRecDepth 20000 in
set_option maxHeartbeats 6400000 in
theorem awake_any (w : World) : Calls Try.prog 6 #[] w fun e w' => e = .returned (.bool true) ∧ Below w.heap.size w w' := by
  obtain ⟨g, hg⟩ : ∃ g, w.heap.size = g := ⟨_, rfl⟩
  have hB := (Below.refl w.heap.size w).alloc (Nat.le_refl _) (.cells #[.slice none 0 0, .int .i64 0] 24)
  have hv : VarC (w.alloc (.cells #[.slice none 0 0, .int .i64 0] 24)) g none 0 0 (aw 0) (fun b => b ≠ g) := ⟨by have := Box2.new w (.slice none 0 0) (.int .i64 0) 24; rw [hg] at this; exact this, rfl, Nat.le_refl _, ⟨fun h => absurd rfl h, fun h => absurd rfl h, fun _ => ⟨rfl, rfl⟩⟩⟩
  have HG := Lib.hid hg
  go_enter Try.func6, Try.ntmps6
  go_wp2
  clear hg
  generalize w.alloc (.cells #[.slice none 0 0, .int .i64 0] 24) = w1 at hv hB ⊢
  go_loopw [2] (fun i wr => ∃ (q n cp : Nat) (A : Option Addr), q ≤ 8 ∧ i = .int .i64 q ∧ VarC wr g A n cp (aw q) (fun b => b ≠ g) ∧ Below w.heap.size w wr) (fun i _ => 8 - (intOf i).toNat)
  case atStart => exact ⟨0, 0, 0, none, by omega, rfl, hv, hB⟩
  case round =>
    clear hv hB
    obtain ⟨q, n, cc, Ac, hq, rfl, hv, hB⟩ := hrel
    by_cases hlt : q < 8
    · have hz1 : IntKind.i64.wrap (97 + (q : Int)) = 97 + (q : Int) := IntWalk.i64_in _ (by omega)
      have hz2 : IntKind.i32.wrap (97 + (q : Int)) = 97 + (q : Int) := by rw [IntKind.wrap_i32]; omega
      have he := ck_enc q hlt
      have hcall := put_any (m := 0) (fun b => b ≠ g) (q : Int) (ck q) (aw_ok q hq) (by omega) hv.hl hv.hn hv.hc (by omega) (by omega) (by rw [ck_size]; omega)
      obtain ⟨c', hc'⟩ : ∃ c', putC (aw q) (q : Int) (ck q) = c' := ⟨_, rfl⟩
      rw [hc'] at hcall
      have HC' : Hid (c' = aw (q + 1)) := Lib.hid hc'.symm
      have hx := hv.b
      obtain ⟨h0, hh0⟩ : ∃ h0 : Nat, (aw q).h = h0 := ⟨_, rfl⟩
      rw [hh0] at hx hcall
      have i1 : (q : Int) < 8 := by omega
      have c0 := hx.c0
      have c1 := hx.c1
      have hgl0 := hv.b.lt
      clear hc' hv hh0
      go_wp2_with fail
      refine hcall.mono ?_
      rintro e w3 ⟨v, rfl, ⟨A2, n2, cp2, rfl, hn2, hc2, hl2⟩, hy⟩
      have hx := hx.below hy hx.lt
      have hgl := hx.lt
      have hV := (varC_store hx hn2 hc2 hl2 hgl0 (fun h => h rfl)).mono (Y := fun b => b ≠ g) (fun b h => by rcases h with h | h; exact h; exact Nat.ne_of_gt (Nat.lt_of_lt_of_le hgl0 h))
      have hB3 := (hB.trans (hy.mono hB.size)).trans ((bar2 w3 g (.slice A2 n2 cp2) (.int .i64 c'.h)).below (B := w.heap.size) (Nat.le_of_eq HG.out) (Nat.le_trans hB.size hy.size))
      have HV := Lib.hid (And.intro hV hB3)
      clear c0 c1 hcall hB hV hB3 hy hl2 hn2 hc2 he hgl
      have c0 := hx.c0
      have c1 := hx.c1
      have cf0 := hx.f 0
      have cf1 := hx.f 1
      clear hx
      go_wp2
      go_roundw
      case rel => exact ⟨q + 1, n2, cp2, A2, by omega, by go_num, HC'.out ▸ HV.out.1, HV.out.2⟩
      case measure => simp [intOf]; omega
    · obtain rfl : q = 8 := by omega
      obtain rfl : 8 = n := by rw [← hv.hn]; exact aw_len.symm
      have hgw := HG.out
      -- held
      have hcall : Calls _ _ _ wr (PinPost _ (awD, true) wr) := (show pinC (aw 8) 0 true = (awD, true) from Prod.ext rfl aw_pin) ▸ pin_any (m := 0) (fun b => b ≠ g) 0 true (aw_ok 8 (by omega)) (by omega) hv.hl hv.hn hv.hc (by omega) (by omega)
      have hx := hv.b
      have c0 := hx.c0
      have c1 := hx.c1
      clear hv hgw
      go_wp2_with fail
      refine hcall.mono ?_
      rintro e w3 ⟨v, rfl, ⟨A2, n2, cp2, rfl, hn2, hc2, hl2⟩, hy⟩
      have hx := hx.below hy hx.lt
      have hB := hB.trans (hy.mono hB.size)
      clear c0 c1 hcall hy
      have hn2 : awD.l.length = n2 := hn2
      have hl2 : HasPX w3 (fun b => b ≠ g ∨ wr.heap.size ≤ b) A2 cp2 awD.l := hl2
      have hnew := (Below.refl w3.heap.size w3).alloc (Nat.le_refl _) (.cells #[.slice A2 n2 cp2, .int .i64 awD.h] 24)
      have hvd := (varC_new hn2 hc2 hl2 24).mono (Y := fun b => b ≠ w3.heap.size) (fun b h => h.2)
      have hgl := hx.lt
      have hx := hx.below hnew hx.lt
      have hlew4 := hB.size
      have hB := hB.trans (hnew.mono hB.size)
      have hsw4 : w3.heap.size < (w3.alloc (.cells #[.slice A2 n2 cp2, .int .i64 awD.h] 24)).heap.size := by simp
      obtain ⟨gd, hgd⟩ : ∃ x, w3.heap.size = x := ⟨_, rfl⟩
      rw [hgd] at hvd hgl hlew4 hsw4
      generalize hw4 : w3.alloc (.cells #[.slice A2 n2 cp2, .int .i64 awD.h] 24) = w4 at hx hB hvd hsw4
      clear hnew hn2 hc2 hl2
      -- put
      have hcall : Calls _ _ _ w4 (ClkPost _ awE w4) := put_any (m := 1) (fun b => b ≠ gd) 9 ⟨#[122]⟩ awD_ok (by omega) hvd.hl hvd.hn hvd.hc (by omega) (by omega) (by decide)
      have hd := hvd.b
      have c0 := hd.c0
      have c1 := hd.c1
      clear hvd
      go_wp2_with fail
      clear hw4 hgd
      refine hcall.mono ?_
      rintro e w5 ⟨v, rfl, ⟨Ad, n3, cd, rfl, hn3, hc3, hl3⟩, hy⟩
      have hx := hx.below hy hx.lt
      have hd := hd.below hy hd.lt
      have hB5 := hB.trans (hy.mono hB.size)
      obtain rfl : 8 = n3 := by rw [← hn3]; exact awE_len.symm
      have hvd := (varC_store hd hn3 hc3 hl3 (by have := hd.lt; have := hsw4; omega) (fun h => h rfl)).mono (Y := fun b => b ≠ gd) (fun b h => by rcases h with h | h; exact h; omega)
      have hx9 := hx.bar (bar2 w5 gd (.slice Ad 8 cd) (.int .i64 awE.h)) (Nat.ne_of_lt hgl)
      have hB9 := hB5.trans ((bar2 w5 gd (.slice Ad 8 cd) (.int .i64 awE.h)).below (B := w.heap.size) hlew4 hB5.size)
      have d0 := hd.c0
      have d1 := hd.c1
      have df0 := hd.f 0
      have df1 := hd.f 1
      clear c0 c1 hcall hy hl3 hn3 hc3 hB hB5 hx hd
      generalize hw6 : (w5.setCell ⟨gd, 0, none⟩ (.slice Ad 8 cd)).setCell ⟨gd, 1, none⟩ (.int .i64 awE.h) = w6 at hvd hx9 hB9
      have hx := hx9
      have hB := hB9
      clear hx9 hB9
      -- asked for
      have hcall : Calls _ _ _ w6 (GetPost _ ((getC awE 9).1, ⟨#[122]⟩, true) w6) := (show getC awE 9 = ((getC awE 9).1, (⟨#[122]⟩ : ByteArray), true) from Prod.ext rfl (Prod.ext awE_get.1 awE_get.2)) ▸ get_any (m := 1) (fun b => b ≠ gd) 9 awE_ok (by omega) hvd.hl hvd.hn hvd.hc (by omega) (by omega)
      have c0 := hvd.b.c0
      have c1 := hvd.b.c1
      go_wp2_with fail
      clear hw6 d0 d1 df0 df1 c0 c1
      refine hcall.mono ?_
      rintro e w7 ⟨v, rfl, ⟨A5, n5, cp5, rfl, hn5, hc5, hl5⟩, hy⟩
      have hvd := hvd.below hy
      have hx := hx.below hy hx.lt
      have hB := hB.trans (hy.mono hB.size)
      clear hcall hy hn5 hc5 hl5
      have hvd0 := hvd.new (.cells #[.slice A5 n5 cp5, .int .i64 ((getC awE 9).1.h : Nat)] 24)
      have hnew := (Below.refl w7.heap.size w7).alloc (Nat.le_refl _) (.cells #[.slice A5 n5 cp5, .int .i64 ((getC awE 9).1.h : Nat)] 24)
      have hx := hx.below hnew hx.lt
      have hB := hB.trans (hnew.mono hB.size)
      have hvd := hvd0.mono (Y := fun b => b ≠ gd) (fun b h => h.1)
      clear hnew hvd0
      generalize hw8 : w7.alloc (.cells #[.slice A5 n5 cp5, .int .i64 ((getC awE 9).1.h : Nat)] 24) = w8 at hx hB hvd
      -- let go
      have hcall : Calls _ _ _ w8 (PinPost _ ((pinC awE 0 false).1, true) w8) := (show pinC awE 0 false = ((pinC awE 0 false).1, true) from Prod.ext rfl awE_free.1) ▸ pin_any (m := 1) (fun b => b ≠ gd) 0 false awE_ok (by omega) hvd.hl hvd.hn hvd.hc (by omega) (by omega)
      have c0 := hvd.b.c0
      have c1 := hvd.b.c1
      go_wp2_with fail
      clear hw8 c0 c1
      refine hcall.mono ?_
      rintro e w9 ⟨v, rfl, ⟨Ae, n6, ce, rfl, hn6, hc6, hl6⟩, hy⟩
      have hvd := hvd.below hy
      have hx := hx.below hy hx.lt
      have hB := hB.trans (hy.mono hB.size)
      clear hcall hy
      obtain ⟨E, hE⟩ : ∃ E, (pinC awE 0 false).1 = E := ⟨_, rfl⟩
      have hEk : Ok 2 E := hE ▸ awE_ok.pins 0 false
      have hEs : sumP E.l = 0 := hE ▸ awE_free.2.1
      have hEl : E.l.length = 8 := hE ▸ awE_free.2.2
      rw [hE] at hn6 hl6 ⊢
      obtain rfl : 8 = n6 := by rw [← hn6]; exact hEl.symm
      clear hE
      have hvd9 := hvd.new (.cells #[.slice Ae 8 ce, .int .i64 E.h] 24)
      have hnew := (Below.refl w9.heap.size w9).alloc (Nat.le_refl _) (.cells #[.slice Ae 8 ce, .int .i64 E.h] 24)
      have hve := (varC_new hn6 hc6 hl6 24).mono (Y := fun b => b ≠ w9.heap.size) (fun b h => h.2)
      have hgl := hx.lt
      have hx := hx.below hnew hx.lt
      have hlewA := hB.size
      have hB := hB.trans (hnew.mono hB.size)
      have hswA : w9.heap.size < (w9.alloc (.cells #[.slice Ae 8 ce, .int .i64 E.h] 24)).heap.size := by simp
      obtain ⟨ge, hge⟩ : ∃ x, w9.heap.size = x := ⟨_, rfl⟩
      rw [hge] at hve hgl hlewA hswA hvd9
      generalize hwA : w9.alloc (.cells #[.slice Ae 8 ce, .int .i64 E.h] 24) = wA at hx hB hve hswA hvd9
      clear hnew hn6 hc6 hl6
      have hvd := hvd9.mono (Y := fun b => b ≠ gd) (fun b h => h.1)
      clear hvd9
      -- one that isn't there
      have hcall : Calls _ _ _ wA (PinPost _ ((pinC awE 20 true).1, false) wA) := (show pinC awE 20 true = ((pinC awE 20 true).1, false) from Prod.ext rfl awE_no) ▸ pin_any (m := 1) (fun b => b ≠ gd) 20 true awE_ok (by omega) hvd.hl hvd.hn hvd.hc (by omega) (by omega)
      have c0 := hvd.b.c0
      have c1 := hvd.b.c1
      go_wp2_with fail
      clear hwA hge c0 c1
      refine hcall.mono ?_
      rintro e wB ⟨v, rfl, ⟨A7, n7, cp7, rfl, hn7, hc7, hl7⟩, hy⟩
      have hvd := hvd.below hy
      have hve := hve.below hy
      have hx := hx.below hy hx.lt
      have hB := hB.trans (hy.mono hB.size)
      clear hcall hy hn7 hc7 hl7
      have hvd0 := hvd.new (.cells #[.slice A7 n7 cp7, .int .i64 ((pinC awE 20 true).1.h : Nat)] 24)
      have hve0 := hve.new (.cells #[.slice A7 n7 cp7, .int .i64 ((pinC awE 20 true).1.h : Nat)] 24)
      have hnew := (Below.refl wB.heap.size wB).alloc (Nat.le_refl _) (.cells #[.slice A7 n7 cp7, .int .i64 ((pinC awE 20 true).1.h : Nat)] 24)
      have hx := hx.below hnew hx.lt
      have hB := hB.trans (hnew.mono hB.size)
      have hvd := hvd0.mono (Y := fun b => b ≠ gd) (fun b h => h.1)
      have hve := hve0.mono (Y := fun b => b ≠ ge) (fun b h => h.1)
      clear hnew hvd0 hve0
      generalize hwC : wB.alloc (.cells #[.slice A7 n7 cp7, .int .i64 ((pinC awE 20 true).1.h : Nat)] 24) = wC at hx hB hvd hve
      -- one that has gone
      have hcall : Calls _ _ _ wC (GetPost _ ((getC awE 1).1, (getC awE 1).2.1, false) wC) := (show getC awE 1 = ((getC awE 1).1, (getC awE 1).2.1, false) from Prod.ext rfl (Prod.ext rfl awE_gone)) ▸ get_any (m := 1) (fun b => b ≠ gd) 1 awE_ok (by omega) hvd.hl hvd.hn hvd.hc (by omega) (by omega)
      have c0 := hvd.b.c0
      have c1 := hvd.b.c1
      go_wp2_with fail
      clear hwC c0 c1
      refine hcall.mono ?_
      rintro e wD ⟨v, rfl, ⟨A8, n8, cp8, rfl, hn8, hc8, hl8⟩, hy⟩
      have hvd := hvd.below hy
      have hve := hve.below hy
      have hx := hx.below hy hx.lt
      have hB := hB.trans (hy.mono hB.size)
      clear hcall hy hn8 hc8 hl8
      have hvd0 := hvd.new (.cells #[.slice A8 n8 cp8, .int .i64 ((getC awE 1).1.h : Nat)] 24)
      have hve0 := hve.new (.cells #[.slice A8 n8 cp8, .int .i64 ((getC awE 1).1.h : Nat)] 24)
      have hnew := (Below.refl wD.heap.size wD).alloc (Nat.le_refl _) (.cells #[.slice A8 n8 cp8, .int .i64 ((getC awE 1).1.h : Nat)] 24)
      have hx := hx.below hnew hx.lt
      have hB := hB.trans (hnew.mono hB.size)
      have hvd := hvd0.mono (Y := fun b => b ≠ gd) (fun b h => h.1)
      have hve := hve0.mono (Y := fun b => b ≠ ge) (fun b h => h.1)
      clear hnew hvd0 hve0
      generalize hwE : wD.alloc (.cells #[.slice A8 n8 cp8, .int .i64 ((getC awE 1).1.h : Nat)] 24) = wE at hx hB hvd hve
      -- all together
      have hh : ((awE.h : Nat) : Int) = 2 := by rw [awE_h]; rfl
      have hf0 := fun W (h : HasP W 0 Ad awE.l) => find_any (w := W) (m := 1) (c := awE) 0 awE_ok (by omega) h hvd.hn hvd.hc (by omega) (by omega)
      have hf9 := fun W (h : HasP W 0 Ad awE.l) => find_any (w := W) (m := 1) (c := awE) 9 awE_ok (by omega) h hvd.hn hvd.hc (by omega) (by omega)
      have hf1 := fun W (h : HasP W 0 Ad awE.l) => find_any (w := W) (m := 1) (c := awE) 1 awE_ok (by omega) h hvd.hn hvd.hc (by omega) (by omega)
      have hp1 := fun W (h : HasP W 0 Ad awE.l) => pins_any (w := W) (m := 1) (c := awE) awE_ok (by omega) h hvd.hn hvd.hc
      have hp0 := fun W (h : HasP W 0 Ae E.l) => pins_any (w := W) (m := 2) (c := E) hEk (by omega) h hve.hn hve.hc
      have hr1 : ∀ W (h : HasP W 0 Ad awE.l), Calls Try.prog 7 #[.agg #[.slice Ad 8 cd, .int .i64 (2 : Int)]] W fun e w' => e = .returned (.bool true) ∧ Below W.heap.size W w' := fun W h => (right_any (w := W) (cp := cd) 2 awE.l h hvd.hn hvd.hc (by omega) (fun p hp => by have := awE_ok.fine p hp; exact ⟨this.n0, this.n1, by have := this.p0; omega, by have := this.p1; omega⟩) (by omega) (by omega)).mono (by
        rintro e w' ⟨b, he, hb, hy⟩
        exact ⟨by rw [he, hb.2 (hh ▸ awE_ok.may)], hy⟩)
      have hr0 : ∀ W, Calls Try.prog 7 #[.agg #[.slice none 0 0, .int .i64 (-1 : Int)]] W fun e w' => e = .returned (.bool false) ∧ Below W.heap.size W w' := fun W => (right_any (w := W) (A := none) (n := 0) (cp := 0) (-1) [] (fun h => absurd rfl h) rfl (Nat.le_refl _) (by omega) (fun p hp => by cases hp) (by omega) (by omega)).mono (by
        rintro e w' ⟨b, he, hb, hy⟩
        cases b
        · exact ⟨he, hy⟩
        · exact absurd (hb.1 rfl).h0 (by decide))
      rw [awE_f0, hh, show resI (some 0) = 0 from rfl] at hf0
      rw [awE_f9, hh, show resI (some 1) = 1 from rfl] at hf9
      rw [awE_f1, hh, show resI none = -1 from rfl] at hf1
      rw [awE_sum, hh] at hp1
      rw [hEs] at hp0
      obtain ⟨eh, heh⟩ : ∃ x : Int, ((E.h : Nat) : Int) = x := ⟨_, rfl⟩
      have hve0 := hve.b
      have hvd0 := hvd.b
      rw [hh] at hvd0
      rw [heh] at hp0 hve0
      have hld := hvd.hl.p
      have hle := hve.hl.p
      have x0 := hx.c0
      have d0 := hvd0.c0
      have d1 := hvd0.c1
      have e0 := hve0.c0
      have e1 := hve0.c1
      clear hvd hve hx hh heh hvd0 hve0 hEk hEs hEl
      go_wp2_with fail
      clear hwE
      refine (hf0 _ hld).mono ?_
      rintro e y1 ⟨rfl, hv⟩
      have x0 := cell_belowB hv x0
      have d0 := cell_belowB hv d0
      have d1 := cell_belowB hv d1
      have e0 := cell_belowB hv e0
      have e1 := cell_belowB hv e1
      have hld := hld.below hv (Nat.le_refl _)
      have hle := hle.below hv (Nat.le_refl _)
      have hB := hB.trans (hv.mono hB.size)
      clear hv
      go_wp2_with fail
      refine (hf9 _ hld).mono ?_
      rintro e y2 ⟨rfl, hv⟩
      have x0 := cell_belowB hv x0
      have d0 := cell_belowB hv d0
      have d1 := cell_belowB hv d1
      have e0 := cell_belowB hv e0
      have e1 := cell_belowB hv e1
      have hld := hld.below hv (Nat.le_refl _)
      have hle := hle.below hv (Nat.le_refl _)
      have hB := hB.trans (hv.mono hB.size)
      clear hv
      go_wp2_with fail
      refine (hf1 _ hld).mono ?_
      rintro e y3 ⟨rfl, hv⟩
      have x0 := cell_belowB hv x0
      have d0 := cell_belowB hv d0
      have d1 := cell_belowB hv d1
      have e0 := cell_belowB hv e0
      have e1 := cell_belowB hv e1
      have hld := hld.below hv (Nat.le_refl _)
      have hle := hle.below hv (Nat.le_refl _)
      have hB := hB.trans (hv.mono hB.size)
      clear hv
      go_wp2_with fail
      refine (hp1 _ hld).mono ?_
      rintro e y4 ⟨rfl, hv⟩
      have x0 := cell_belowB hv x0
      have d0 := cell_belowB hv d0
      have d1 := cell_belowB hv d1
      have e0 := cell_belowB hv e0
      have e1 := cell_belowB hv e1
      have hld := hld.below hv (Nat.le_refl _)
      have hle := hle.below hv (Nat.le_refl _)
      have hB := hB.trans (hv.mono hB.size)
      clear hv
      go_wp2_with fail
      refine (hp0 _ hle).mono ?_
      rintro e y5 ⟨rfl, hv⟩
      have x0 := cell_belowB hv x0
      have d0 := cell_belowB hv d0
      have d1 := cell_belowB hv d1
      have e0 := cell_belowB hv e0
      have e1 := cell_belowB hv e1
      have hld := hld.below hv (Nat.le_refl _)
      have hle := hle.below hv (Nat.le_refl _)
      have hB := hB.trans (hv.mono hB.size)
      clear hv
      go_wp2_with fail
      refine (hr1 _ hld).mono ?_
      rintro e y6 ⟨rfl, hv⟩
      have x0 := cell_belowB hv x0
      have d0 := cell_belowB hv d0
      have d1 := cell_belowB hv d1
      have e0 := cell_belowB hv e0
      have e1 := cell_belowB hv e1
      have hld := hld.below hv (Nat.le_refl _)
      have hle := hle.below hv (Nat.le_refl _)
      have hB := hB.trans (hv.mono hB.size)
      clear hv
      go_wp2_with fail
      refine (hr0 _).mono ?_
      rintro e y7 ⟨rfl, hv⟩
      have x0 := cell_belowB hv x0
      have d0 := cell_belowB hv d0
      have d1 := cell_belowB hv d1
      have e0 := cell_belowB hv e0
      have e1 := cell_belowB hv e1
      have hld := hld.below hv (Nat.le_refl _)
      have hle := hle.below hv (Nat.le_refl _)
      have hB := hB.trans (hv.mono hB.size)
      clear hv
      have HB := Lib.hid hB
      clear hld hle x0 e0 e1 hB hf0 hf9 hf1 hp1 hp0 hr1 hr0
      go_wp2
      go_ret
      exact ⟨rfl, HB.out⟩
end Go.Proofs.Ytjjedadhkdpceaa.Cl
