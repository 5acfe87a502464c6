/- Stores in memory: what a value tells; sure, Write, Abort. -/
import Derived.Test.YtcgkbcgpnlogoaaGreatDoorStD
import Derived.Test.YtcgkbcgpnlogoaaGreatDoorSlpD
import Derived.Test.YtcgkbcgpnlogoaaGreatDoorSliD
import Derived.Test.YtcgkbcgpnlogoaaGreatDoorMgAF
namespace Go.Proofs.YtcgkbcgpnlogoaaGreatDoor.St
open Go.RowKit Go.Shelf Tal Sla Hd Fr Lf Lex
/-- The slice holds these, in blocks that are so. -/
structure HasX {α : Type} (R : α → List Value) (k : Nat) (w : World) (Z : Nat → Prop) (A : Option Addr) (cp : Nat) (l : List α) : Prop where
 p : Li.HasL R k w 0 A l
 x : l ≠ [] → ∀ b o s, A = some ⟨b, o, s⟩ → Z b
 c : l.length ≤ cp
section
variable {α : Type} {R : α → List Value} {k : Nat} {w w' : World} {Z Z' : Nat → Prop} {A : Option Addr} {cp B : Nat} {l : List α} {L L' : List Nat}
theorem HasX.below (h : HasX R k w Z A cp l) (hb : Below B w w') (hB : w.heap.size ≤ B) : HasX R k w' Z A cp l := ⟨h.p.below hb hB, h.x, h.c⟩
theorem HasX.mono (h : HasX R k w Z A cp l) (hz : ∀ b, Z b → Z' b) : HasX R k w Z' A cp l := ⟨h.p, fun hn b o s e => hz _ (h.x hn b o s e), h.c⟩
theorem HasX.nil : HasX R k w Z none 0 [] := ⟨fun h => absurd rfl h, fun h => absurd rfl h, Nat.le_refl _⟩
theorem hasL_ext (h : Li.HasL R k w 0 A l) (hx : l ≠ [] → ∀ b o s, A = some ⟨b, o, s⟩ → Fv.Free L w b) (e : Fv.Ext L w L' w') : Li.HasL R k w' 0 A l := by
 intro hn
 obtain ⟨b, o, hA, _, hlt, hc⟩ := h hn
 have hf := hx hn b o none hA
 exact ⟨b, o, hA, Nat.zero_le _, (e.free b hf).1, fun j x hj i v hv => (cell_ext e hf).trans (hc j x hj i v hv)⟩
end
/-- The row is free, and not below. -/
def RowF {α : Type} (R : α → List Value) (k : Nat) (n0 : Nat) (A : Option Addr) (cp : Nat) (l : List α) : Fv.Fact := fun L w => HasX R k w (fun b => n0 ≤ b ∧ Fv.Free L w b) A cp l
theorem RowF.ext {α : Type} {R : α → List Value} {k n0 : Nat} {A : Option Addr} {cp : Nat} {l : List α} {L L' : List Nat} {w w' : World} (h : RowF R k n0 A cp l L w) (e : Fv.Ext L w L' w') : RowF R k n0 A cp l L' w' :=
 ⟨hasL_ext h.p (fun hn b o s hA => (h.x hn b o s hA).2) e, fun hn b o s hA => ⟨(h.x hn b o s hA).1, e.free b (h.x hn b o s hA).2⟩, h.c⟩
/-- The clock's pages lie free. -/
def ClkF (X : Nat → Prop) (n0 : Nat) (c : Cl.C) (A : Option Addr) (n cp : Nat) : Fv.Fact := fun L w => c.l.length = n ∧ n ≤ cp ∧ Cl.HasPX w (fun b => (X b ∨ n0 ≤ b) ∧ Fv.Free L w b) A cp c.l
theorem ClkF.ext {X : Nat → Prop} {n0 n cp : Nat} {c : Cl.C} {A : Option Addr} {L L' : List Nat} {w w' : World} (h : ClkF X n0 c A n cp L w) (e : Fv.Ext L w L' w') : ClkF X n0 c A n cp L' w' :=
 ⟨h.1, h.2.1, ⟨hasL_ext h.2.2.p (fun hn b o s hA => (h.2.2.x hn b o s hA).2) e, fun hn b o s hA => ⟨(h.2.2.x hn b o s hA).1, e.free b (h.2.2.x hn b o s hA).2⟩, h.2.2.z⟩⟩
section
variable {w0 W : World} {vs : List Fv.V} {Φ : Fv.Fact}
theorem free_new (F : Fv.Fr w0 W vs Φ) {W' : World} {b : Nat} (h1 : W.heap.size ≤ b) (h2 : b < W'.heap.size) : Fv.Free (vs.map (·.1)) W' b := ⟨h2, fun hm => by
 obtain ⟨x, hx, rfl⟩ := List.mem_map.1 hm
 have := F.lt hx
 omega⟩
theorem addRow {α : Type} {R : α → List Value} {k : Nat} {A : Option Addr} {cp : Nat} {l : List α} {W' : World} (F : Fv.Fr w0 W vs Φ) (F2 : Fv.Fr w0 W' vs Φ) (h : HasX R k W' (fun b => W.heap.size ≤ b ∧ b < W'.heap.size) A cp l) : Fv.Fr w0 W' vs (fun L w => Φ L w ∧ RowF R k w0.heap.size A cp l L w) :=
 F2.add fun _ _ e => RowF.ext (h.mono fun b hb => ⟨Nat.le_trans F.B.size hb.1, free_new F hb.1 hb.2⟩) e
/-- A clock that came back. -/
theorem addClk {X : Nat → Prop} {c : Cl.C} {A : Option Addr} {n cp : Nat} {W' : World} (F : Fv.Fr w0 W vs Φ) (F2 : Fv.Fr w0 W' vs Φ) (hn : c.l.length = n) (hc : n ≤ cp) (h : Cl.HasPX W' (fun b => ((X b ∨ w0.heap.size ≤ b) ∧ Fv.Free (vs.map (·.1)) W b) ∨ W.heap.size ≤ b) A cp c.l) : Fv.Fr w0 W' vs (fun L w => Φ L w ∧ ClkF X w0.heap.size c A n cp L w) :=
 F2.add fun _ _ e => ClkF.ext ⟨hn, hc, h.lt.mono fun b hb => by
  rcases hb.1 with h1 | h1
  ·exact ⟨h1.1, ⟨hb.2, h1.2.2⟩⟩
  ·exact ⟨Or.inr (Nat.le_trans F.B.size h1), free_new F h1 hb.2⟩⟩ e
/-- What lay below lies so still. -/
theorem Fv.Fr.clk {X : Nat → Prop} {A : Option Addr} {cp : Nat} {l : List Cl.P} (F : Fv.Fr w0 W vs Φ) (h : Cl.HasPX w0 X A cp l) : Cl.HasPX W (fun b => (X b ∨ w0.heap.size ≤ b) ∧ Fv.Free (vs.map (·.1)) W b) A cp l :=
 (h.lt.below F.B (Nat.le_refl _)).mono fun b hb => ⟨Or.inl hb.1, ⟨Nat.lt_of_lt_of_le hb.2 F.B.size, fun hm => by
  obtain ⟨x, hx, rfl⟩ := List.mem_map.1 hm
  have := (F.at_ x hx).1
  omega⟩⟩
end
/-- The value tells the store; its lists lie in blocks that are so. -/
def IsSt (Z : Nat → Prop) (w : World) (v : Value) (s : S) : Prop :=
 ∃ (A0 : Option Addr) (n0 c0 : Nat) (B0 : Option Addr) (m0 k0 : Nat) (dd0 : Bool) (lf0 ds0 : Int) (Af : Option Addr) (cf : Nat) (Ad : Option Addr) (cd : Nat) (Ac : Option Addr) (cc : Nat),
  v = .agg #[.slice A0 n0 c0, .slice B0 m0 k0, .bool dd0, .int .i64 lf0, .int .i64 ds0, .int .i64 s.h.p, .int .i64 s.h.l, .int .i64 s.h.e, .int .i64 (s.t : Nat), .slice Af s.fr.length cf, .slice Ad s.di.length cd, .slice Ac s.c.l.length cc, .int .i64 (s.c.h : Nat)] ∧
  IsDev w (.agg #[.slice A0 n0 c0, .slice B0 m0 k0, .bool dd0, .int .i64 lf0, .int .i64 ds0]) s.d ∧ HasX SlI.cellsE 2 w Z Af cf s.fr ∧ HasX SlP.cellsE 2 w Z Ad cd s.di ∧ Cl.HasPX w Z Ac cc s.c.l ∧ s.c.l.length ≤ cc
/-- A store as the calls make them. -/
structure OkS (s : S) (K : Nat) : Prop where
 d : s.d.Ok K
 h : RightH s.h
 n : s.d.n = 2 + s.h.p.toNat + s.h.l.toNat
 t : s.t ≤ s.h.l.toNat
 fu : SlI.Up s.fr
 fi : ∀ m ∈ s.fr, m.pg < s.h.p.toNat ∧ m.at_ < s.h.l.toNat
 fl : s.fr.length ≤ 512
 du : SlP.Up s.di
 di : ∀ p ∈ s.di, p.no < s.h.p.toNat ∧ p.data.size = 200
 dl : s.di.length ≤ 512
 c : Cl.Ok 0 s.c
def StErr (X : Nat → Prop) (s : S) (err : Int) (w : World) (e : Ending) (w' : World) : Prop := ∃ v, e = .returned (.tuple #[v, .int .i64 err]) ∧ IsSt (fun b => X b ∨ w.heap.size ≤ b) w' v s ∧ Below w.heap.size w w'
def StRet (X : Nat → Prop) (s : S) (w : World) (e : Ending) (w' : World) : Prop := ∃ v, e = .returned v ∧ IsSt (fun b => X b ∨ w.heap.size ≤ b) w' v s ∧ Below w.heap.size w w'
def StRead (X : Nat → Prop) (s : S) (d : ByteArray) (err : Int) (w : World) (e : Ending) (w' : World) : Prop := ∃ v, e = .returned (.tuple #[v, .string d, .int .i64 err]) ∧ IsSt (fun b => X b ∨ w.heap.size ≤ b) w' v s ∧ Below w.heap.size w w'
theorem dev_eq {w : World} {D : Dev} {A B : Option Addr} {n c m k : Nat} {dd : Bool} {lf ds : Int} (h : IsDev w (.agg #[.slice A n c, .slice B m k, .bool dd, .int .i64 lf, .int .i64 ds]) D) : dd = D.dead ∧ lf = D.left ∧ ds = D.deeds := by
 obtain ⟨b, B', c', k', e, _⟩ := h
 simp only [Value.agg.injEq, Array.mk.injEq, List.cons.injEq, Value.slice.injEq, Value.bool.injEq, Value.int.injEq, true_and, and_true] at e
 exact ⟨e.2.2.1, e.2.2.2.1, e.2.2.2.2⟩
theorem row_X {W : World} {base m : Nat} {v : Value} {l : List Pg} (h : SlP.OwnE W base v m l) (hm : l.length = m) : ∃ A c, v = .slice A m c ∧ HasX SlP.cellsE 2 W (fun b => base ≤ b ∧ b < W.heap.size) A c l := by
 obtain ⟨A, c, hv, hc, hl⟩ := Li.list_of_own SlP.cellsE_len h hm
 refine ⟨A, c, hv, hl.lower (Nat.zero_le _), fun hn b o s hA => ?_, by omega⟩
 obtain ⟨b', o', hA', hlo, hlt, _⟩ := hl hn
 rw [hA'] at hA
 injection hA with hA
 injection hA with e1 _ _
 rw [← e1]
 exact ⟨hlo, hlt⟩
theorem row_XI {W : World} {base m : Nat} {v : Value} {l : List Im} (h : SlI.OwnE W base v m l) (hm : l.length = m) : ∃ A c, v = .slice A m c ∧ HasX SlI.cellsE 2 W (fun b => base ≤ b ∧ b < W.heap.size) A c l := by
 obtain ⟨A, c, hv, hc, hl⟩ := Li.list_of_own SlI.cellsE_len h hm
 refine ⟨A, c, hv, hl.lower (Nat.zero_le _), fun hn b o s hA => ?_, by omega⟩
 obtain ⟨b', o', hA', hlo, hlt, _⟩ := hl hn
 rw [hA'] at hA
 injection hA with hA
 injection hA with e1 _ _
 rw [← e1]
 exact ⟨hlo, hlt⟩
set_option maxRecDepth 20000 in
set_option maxHeartbeats 6400000 in
theorem abort_any {X : Nat → Prop} (v : Value) (s : S) (w : World) (hS : IsSt X w v s) : Calls Tryz.prog 25 #[v] w (StRet X (abortR s) w) := by
 obtain ⟨A0, n0, c0, B0, m0, k0, dd0, lf0, ds0, Af, cf, Ad, cd, Ac, cc, rfl, hdev, hfr, hdi, hck, hcc⟩ := hS
 have HS := Lib.hid (And.intro hdev (And.intro hfr (And.intro hdi (And.intro hck hcc))))
 clear hdev hfr hdi hck hcc
 have F := Fv.Fr.start w
 go_enter Tryz.func25, Tryz.ntmps25
 go_wp2_with (first
  | ((with_reducible (show wpList _ _ _ (Oper.mk _ (Op.load _ _) _ _ _ none :: _) _ _)); first | refine Fv.ldN F rfl rfl rfl (by repeat constructor) (by repeat constructor) ?_ | refine Fv.ld1 F rfl rfl rfl (by repeat constructor) (by repeat constructor) ?_)
  | ((with_reducible (show wpList _ _ _ (Oper.mk _ (Op.store _ _ _) _ _ _ none :: _) _ _)); (first | refine Fv.stN F rfl rfl rfl rfl rfl (by first | rfl | simp [Value.oneCell']) (by repeat constructor) ?_ | refine Fv.st1 F rfl rfl rfl (by first | exact (rfl : _ = Value.int _ _) | exact (rfl : _ = Value.slice _ _ _) | exact (rfl : _ = Value.bool _) | exact (rfl : _ = Value.string _)) (by rfl) (by repeat constructor) ?_); clear F; intro W F)
  | ((with_reducible (show wpList _ _ _ (Oper.mk _ (Op.alloc _) _ _ _ none :: _) _ _)); refine Fv.al F rfl rfl ?_; clear F; intro g W hs1 hs2 F; clear hs1 hs2)
  | ((with_reducible (show wpList _ _ _ (Oper.mk _ (Op.box _ _) _ _ _ none :: _) _ _)); refine Fv.wpL_box F rfl rfl rfl rfl ?_; clear F; intro g W hs1 hs2 F; clear hs1 hs2))
 refine bodyPost_ret (res_c F rfl rfl Fv.rt_Store (by repeat constructor) rfl) rfl ?_
 exact ⟨_, rfl, ⟨_, _, _, _, _, _, _, _, _, _, _, _, _, _, _, rfl, HS.out.1.below F.B (Nat.le_refl _), (HS.out.2.1.below F.B (Nat.le_refl _)).mono (fun _ h => Or.inl h), HasX.nil, (HS.out.2.2.2.1.below F.B (Nat.le_refl _)).mono (fun _ h => Or.inl h), HS.out.2.2.2.2⟩, F.B⟩
end Go.Proofs.YtcgkbcgpnlogoaaGreatDoor.St
