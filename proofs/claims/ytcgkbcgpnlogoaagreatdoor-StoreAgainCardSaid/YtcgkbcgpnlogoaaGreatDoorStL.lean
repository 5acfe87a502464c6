/- Stores: the program's settled. -/
import Derived.Test.YtcgkbcgpnlogoaaGreatDoorStK
import Derived.Test.YtcgkbcgpnlogoaaGreatDoorClX
import Derived.Test.YtcgkbcgpnlogoaaGreatDoorMgAF
namespace Go.Proofs.YtcgkbcgpnlogoaaGreatDoor.St
open Go.RowKit Go.Shelf Tal Sla Hd Fr Lf Lex
/-- The clock's pages lie free, and in no row of kind t that is new. -/
def KF (t : TypeId) (X : Nat → Prop) (n0 : Nat) (c : Cl.C) (A : Option Addr) (n cp : Nat) : Fv.Fact := fun L W => c.l.length = n ∧ n ≤ cp ∧
 Cl.HasPX W (fun b => ((X b ∨ n0 ≤ b) ∧ Fv.Free L W b) ∧ (b < n0 ∨ ∀ cs u fr, W.heap[b]? = some (.cells cs u fr) → u ≠ t)) A cp c.l
theorem hasL_blocks {α : Type} {R : α → List Value} {k : Nat} {w w' : World} {A : Option Addr} {l : List α} (h : Li.HasL R k w 0 A l) (hb : l ≠ [] → ∀ b o s, A = some ⟨b, o, s⟩ → b < w'.heap.size ∧ w'.heap[b]? = w.heap[b]?) : Li.HasL R k w' 0 A l := by
 intro hn
 obtain ⟨b, o, hA, _, hlt, hc⟩ := h hn
 obtain ⟨h1, h2⟩ := hb hn b o none hA
 exact ⟨b, o, hA, Nat.zero_le _, h1, fun j x hj i v hv => (World.cell?_of_block (w := w) (a := ⟨b, o + j * k + i, none⟩) h2).trans (hc j x hj i v hv)⟩
section
variable {t : TypeId} {X : Nat → Prop} {n0 n cp : Nat} {c : Cl.C} {A : Option Addr} {L L' : List Nat} {w0 W W' : World} {vs : List Fv.V} {Φ : Fv.Fact}
theorem KF.ext (h : KF t X n0 c A n cp L W) (e : Fv.Ext L W L' W') : KF t X n0 c A n cp L' W' :=
 ⟨h.1, h.2.1, ⟨hasL_ext h.2.2.p (fun hn b o s hA => (h.2.2.x hn b o s hA).1.2) e, fun hn b o s hA => by
  have hx := h.2.2.x hn b o s hA
  exact ⟨⟨hx.1.1, e.free b hx.1.2⟩, hx.2.imp id fun hy cs u fr hh => hy cs u fr ((e.block b hx.1.2).symm.trans hh)⟩, h.2.2.z⟩⟩
theorem KF.grown {row : Option Nat} (h : KF t X n0 c A n cp L W) (hg : W.grownBy W' row) (hr : ∀ q, row = some q → n0 ≤ q ∧ ∃ cs fr, W.heap[q]? = some (.cells cs t fr)) : KF t X n0 c A n cp L W' := by
 have key : c.l ≠ [] → ∀ b o s, A = some ⟨b, o, s⟩ → b < W'.heap.size ∧ W'.heap[b]? = W.heap[b]? := fun hn b o s hA => by
  have hx := h.2.2.x hn b o s hA
  refine ⟨Nat.lt_of_lt_of_le hx.1.2.1 hg.size, hg.block b hx.1.2.1 fun e => ?_⟩
  obtain ⟨h1, cs, fr, h2⟩ := hr b e.symm
  rcases hx.2 with h3 | h3
  ·omega
  ·exact h3 cs t fr h2 rfl
 exact ⟨h.1, h.2.1, ⟨hasL_blocks h.2.2.p key, fun hn b o s hA => by
  have hx := h.2.2.x hn b o s hA
  have hk := key hn b o s hA
  exact ⟨⟨hx.1.1, hk.1, hx.1.2.2⟩, hx.2.imp id fun hy cs u fr hh => hy cs u fr (hk.2.symm.trans hh)⟩, h.2.2.z⟩⟩
theorem KF.entry (F : Fv.Fr w0 W vs Φ) (hn : c.l.length = n) (hc : n ≤ cp) (h : Cl.HasPX w0 X A cp c.l) : KF t X w0.heap.size c A n cp (vs.map (·.1)) W :=
 ⟨hn, hc, ⟨((h.lt.below F.B (Nat.le_refl _))).p, fun hn b o s hA => by
  have hb := h.lt.x hn b o s hA
  exact ⟨⟨Or.inl hb.1, ⟨Nat.lt_of_lt_of_le hb.2 F.B.size, fun hm => by
   obtain ⟨x, hx, rfl⟩ := List.mem_map.1 hm
   have := (F.at_ x hx).1
   omega⟩⟩, Or.inl hb.2⟩, h.z⟩⟩
theorem KF.own {g : Nat} (F : Fv.Fr w0 W vs Φ) (F2 : Fv.Fr w0 W' vs Φ) (hn : c.l.length = n) (hc : n ≤ cp) (h : W'.ownsRow W.heap.size 195 4 (.slice (some ⟨g, 0, none⟩) n cp) n (Li.cellsL Cl.cellsP c.l)) (ht : (195 : TypeId) ≠ t) (h0 : 0 < n) : KF t X w0.heap.size c (some ⟨g, 0, none⟩) n cp (vs.map (·.1)) W' := by
 obtain ⟨A', c', e, _, hl⟩ := Li.list_of_own Cl.cellsP_len h hn
 injection e with e1 _ _
 subst e1
 refine ⟨hn, hc, ⟨hl.lower (Nat.zero_le _), fun hn' b o s hA => ?_, fun e => by rw [e] at hn; simp at hn; omega⟩⟩
 injection hA with hA
 injection hA with e1 _ _
 subst e1
 have hb := h.lt g rfl
 refine ⟨⟨Or.inr (Nat.le_trans F.B.size hb.1), free_new F hb.1 hb.2⟩, Or.inr fun cs u fr hh => ?_⟩
 rcases h.2 with ⟨h1, _⟩ | ⟨g', cap, cur, h1, _, h3, _⟩
 ·cases h1
 ·injection h1 with h1 _ _
  injection h1 with h1
  injection h1 with h1 _ _
  subst h1
  rw [h3] at hh
  injection hh with hh
  injection hh with _ hh _
  rw [← hh]
  exact ht
theorem KF.weak (h : KF t X n0 c A n cp L W) : Cl.HasPX W (fun b => (X b ∨ n0 ≤ b) ∧ Fv.Free L W b) A cp c.l := h.2.2.mono fun _ hb => hb.1
theorem addKF (F : Fv.Fr w0 W vs Φ) (h : KF t X w0.heap.size c A n cp (vs.map (·.1)) W) : Fv.Fr w0 W vs (fun L w => Φ L w ∧ KF t X w0.heap.size c A n cp L w) := F.add fun _ _ e => h.ext e
end
theorem own_tag {W : World} {t : TypeId} {k base n q : Nat} {v : Value} {xs : List Value} (h : W.ownsRow base t k v n xs) (hq : v.ownBlock = some q) : base ≤ q ∧ ∃ cs fr, W.heap[q]? = some (.cells cs t fr) := by
 rcases h.2 with ⟨rfl, _⟩ | ⟨g, cap, cur, rfl, h2, h3, _⟩
 ·cases hq
 ·have hq : some g = some q := hq
  injection hq with hq
  subst hq
  exact ⟨h2, cur, (0, 0), h3⟩
theorem grow_all {t : TypeId} {X : Nat → Prop} {w0 W w5 : World} {vs : List Fv.V} {c : Cl.C} {A : Option Addr} {n cp k m : Nat} {v : Value} {xs : List Value} {o : Obj} (F : Fv.Fr w0 W vs (fun L w2 => (True ∧ KF t X w0.heap.size c A n cp L w2) ∧ OwnR t k w0.heap.size v m xs L w2)) (hg : (W.alloc o).grownBy w5 v.ownBlock) : Fv.Fr w0 w5 vs (fun L w2 => True ∧ KF t X w0.heap.size c A n cp L w2) := by
 have F1 := F.call ((Below.refl W.heap.size W).alloc (Nat.le_refl _) o)
 exact addKF (frGrown F1 hg (fun q hq => ⟨(F1.out.2.1.lt q hq).1, F1.out.2.2 q hq⟩)) (F1.out.1.2.grown hg (fun q hq => own_tag F1.out.2.1 hq))
def imF (t : Nat) (i : Nat) (p : Pg) : Im := ⟨p.no, t + i⟩
theorem hand_snoc : ∀ (l : List Pg) (c : Cl.C) (p : Pg), handL c (l ++ [p]) = Cl.putC (handL c l) p.no p.data
 | [], _, _ => rfl
 | q :: l, c, p => by
  show handL (Cl.putC c q.no q.data) (l ++ [p]) = _
  rw [hand_snoc l]
  rfl
set_option maxRecDepth 20000 in
set_option maxHeartbeats 6400000 in
theorem settled_any {X : Nat → Prop} {K : Nat} (v : Value) (s : S) (w : World) (ht : Tab w) (hS : IsSt X w v s) (hok : OkS s K) (hK : K ≤ 99990) :
  Calls Tryz.prog 136 #[v] w (StRet X (settledR s) w) := by
 obtain ⟨iE, hiE, hv0, hv1, hv2⟩ := info_parts SlI.infoE
 obtain ⟨A0, n0, c0, B0, m0, k0, dd0, lf0, ds0, Af, cf, Ad, cd, Ac, cc, rfl, hdev, hfr, hdi, hck, hcc⟩ := hS
 have HS := Lib.hid (And.intro hdev (And.intro hfr (And.intro hdi (And.intro hck hcc))))
 have HT := Lib.hid ht
 have HK := Lib.hid (And.intro hok hK)
 clear hdev hfr hdi hck hcc ht hok hK
 obtain ⟨post, hpost⟩ : ∃ post, StRet X (settledR s) w = post := ⟨_, rfl⟩
 rw [hpost]
 have HP := Lib.hid hpost
 clear hpost
 have hdl := HK.out.1.dl
 have ht9 := HK.out.1.t
 have hl9 := HK.out.1.h.l1
 have hfl := HK.out.1.fl
 have F := Fv.Fr.start w
 go_enter Tryz.func136, Tryz.ntmps136
 go_upto_region 2 with (first
  | ((with_reducible (show wpList _ _ _ (Oper.mk _ (Op.load _ _) _ _ _ none :: _) _ _)); first | refine Fv.ldN F rfl rfl rfl (by repeat constructor) (by repeat constructor) ?_ | refine Fv.ld1 F rfl rfl rfl (by repeat constructor) (by repeat constructor) ?_)
  | ((with_reducible (show wpList _ _ _ (Oper.mk _ (Op.store _ _ _) _ _ _ none :: _) _ _)); (first | refine Fv.stN F rfl rfl rfl rfl rfl (by first | rfl | simp [Value.oneCell']) (by repeat constructor) ?_ | refine Fv.st1 F rfl rfl rfl (by first | exact (rfl : _ = Value.int _ _) | exact (rfl : _ = Value.slice _ _ _) | exact (rfl : _ = Value.bool _) | exact (rfl : _ = Value.string _)) (by rfl) (by repeat constructor) ?_); clear F; intro W F)
  | ((with_reducible (show wpList _ _ _ (Oper.mk _ (Op.alloc _) _ _ _ none :: _) _ _)); refine Fv.al F rfl rfl ?_; clear F; intro g W hs1 hs2 F; clear hs1 hs2)
  | ((with_reducible (show wpList _ _ _ (Oper.mk _ (Op.box _ _) _ _ _ none :: _) _ _)); refine Fv.wpL_box F rfl rfl rfl rfl ?_; clear F; intro gb W hs1 hs2 F; clear hs1 hs2)
  | ((with_reducible (show wpList _ _ _ (Oper.mk _ (Op.makeSlice _ _ _) _ _ _ none :: _) _ _)); refine wpList_make_own _ rfl _ _ 31 rfl w.heap.size 116 iE _ 2 Tryz.underlying31 hiE hv0 hv1 _ _ _ s.di.length rfl rfl (by omega) (by rw [hv2]; omega) (by unfold maxLen; omega) F.B.size ?_; intro w1 hown1 hgrow1))
 replace F := addOwn (addKF (t := 116) (frGrown F hgrow1 (fun q hq => by cases hq)) (KF.entry (X := X) (frGrown F hgrow1 (fun q hq => by cases hq)) rfl HS.out.2.2.2.2 HS.out.2.2.2.1)) hown1 rfl
 clear hgrow1 hown1
 go_upto_region 3 with (first
  | ((with_reducible (show wpList _ _ _ (Oper.mk _ (Op.load _ _) _ _ _ none :: _) _ _)); first | refine Fv.ldN F rfl rfl rfl (by repeat constructor) (by repeat constructor) ?_ | refine Fv.ld1 F rfl rfl rfl (by repeat constructor) (by repeat constructor) ?_)
  | ((with_reducible (show wpList _ _ _ (Oper.mk _ (Op.store _ _ _) _ _ _ none :: _) _ _)); (first | refine Fv.stN F rfl rfl rfl rfl rfl (by first | rfl | simp [Value.oneCell']) (by repeat constructor) ?_ | refine Fv.st1 F rfl rfl rfl (by first | exact (rfl : _ = Value.int _ _) | exact (rfl : _ = Value.slice _ _ _) | exact (rfl : _ = Value.bool _) | exact (rfl : _ = Value.string _)) (by rfl) (by repeat constructor) ?_); clear F; intro W F)
  | ((with_reducible (show wpList _ _ _ (Oper.mk _ (Op.alloc _) _ _ _ none :: _) _ _)); refine Fv.al F rfl rfl ?_; clear F; intro g W hs1 hs2 F; clear hs1 hs2))
 go_loopw [3, 13] (fun s3 s13 wr => ∃ (k : Nat) (Ac1 : Option Addr) (n1 c1 : Nat) (c : Cl.C), s13 = .int .i64 (k : Nat) ∧ k ≤ s.di.length ∧ Hid (handL s.c (s.di.take k) = c) ∧ Hid (Cl.Ok 0 c) ∧ Fv.Fr w wr [(g, 37, [.slice none 0 0, .slice none 0 0, .bool false, .int .i64 0, .int .i64 0, .int .i64 0, .int .i64 0, .int .i64 0, .int .i64 0, .slice none 0 0, .slice none 0 0, .slice none 0 0, .int .i64 0]), (gb, 37, [.slice A0 n0 c0, .slice B0 m0 k0, .bool dd0, .int .i64 lf0, .int .i64 ds0, .int .i64 s.h.p, .int .i64 s.h.l, .int .i64 s.h.e, .int .i64 (s.t : Nat), .slice Af s.fr.length cf, .slice Ad s.di.length cd, .slice Ac1 n1 c1, .int .i64 (c.h : Nat)])] (fun L w2 => (True ∧ KF 116 X w.heap.size c Ac1 n1 c1 L w2) ∧ OwnR 116 2 w.heap.size s3 k (Li.cellsL SlI.cellsE ((s.di.take k).mapIdx (imF s.t))) L w2)) (fun _ s13 _ => s.di.length - (intOf s13).toNat)
 case atStart => exact ⟨0, _, _, _, s.c, rfl, Nat.zero_le _, rfl, HK.out.1.c, F⟩
 case round =>
  clear F
  obtain ⟨k, Ac1, n1, c1, c, rfl, hk, HC, HCO, F⟩ := hrel
  by_cases hlt : k < s.di.length
  ·have i1 : (k : Int) < (s.di.length : Int) := by omega
   have i0 : (0 : Int) ≤ (k : Int) := by omega
   obtain ⟨y, hy⟩ : ∃ y, s.di[k]? = some y := ⟨_, List.getElem?_eq_getElem hlt⟩
   obtain ⟨b0, q0, hAd, _, hb0, hR⟩ := SlP.HasE.at HS.out.2.2.1.p hy
   have d0 : (_ : World).cell? ⟨b0, q0 + k * 2, none⟩ = some (.int .i64 (y.no : Nat)) := (F.B.cell (p := ⟨b0, q0 + k * 2, none⟩) hb0).trans (hR 0 _ rfl)
   have d1 : (_ : World).cell? ⟨b0, q0 + k * 2 + 1, none⟩ = some (.string y.data) := (F.B.cell (p := ⟨b0, q0 + k * 2 + 1, none⟩) hb0).trans (hR 1 _ rfl)
   subst hAd
   have HY := Lib.hid hy
   clear hR hb0 hy
   go_upto_region 5 with (first
    | ((with_reducible (show wpList _ _ _ (Oper.mk _ (Op.load _ _) _ _ _ none :: _) _ _)); first | refine Fv.ldN F rfl rfl rfl (by repeat constructor) (by repeat constructor) ?_ | refine Fv.ld1 F rfl rfl rfl (by repeat constructor) (by repeat constructor) ?_)
    | ((with_reducible (show wpList _ _ _ (Oper.mk _ (Op.store _ _ _) _ _ _ none :: _) _ _)); (first | refine Fv.stN F rfl rfl rfl rfl rfl (by first | rfl | simp [Value.oneCell']) (by repeat constructor) ?_ | refine Fv.st1 F rfl rfl rfl (by first | exact (rfl : _ = Value.int _ _) | exact (rfl : _ = Value.slice _ _ _) | exact (rfl : _ = Value.bool _) | exact (rfl : _ = Value.string _)) (by rfl) (by repeat constructor) ?_); clear F; intro W F)
    | ((with_reducible (show wpList _ _ _ (Oper.mk _ (Op.alloc _) _ _ _ none :: _) _ _)); refine Fv.al F rfl rfl ?_; clear F; intro g W hs1 hs2 F; clear hs1 hs2))
   clear d0 d1
   go_upto_region 6 with (first
    | ((with_reducible (show wpList _ _ _ (Oper.mk _ (Op.load _ _) _ _ _ none :: _) _ _)); first | refine Fv.ldN F rfl rfl rfl (by repeat constructor) (by repeat constructor) ?_ | refine Fv.ld1 F rfl rfl rfl (by repeat constructor) (by repeat constructor) ?_)
    | ((with_reducible (show wpList _ _ _ (Oper.mk _ (Op.store _ _ _) _ _ _ none :: _) _ _)); (first | refine Fv.stN F rfl rfl rfl rfl rfl (by first | rfl | simp [Value.oneCell']) (by repeat constructor) ?_ | refine Fv.st1 F rfl rfl rfl (by first | exact (rfl : _ = Value.int _ _) | exact (rfl : _ = Value.slice _ _ _) | exact (rfl : _ = Value.bool _) | exact (rfl : _ = Value.string _)) (by rfl) (by repeat constructor) ?_); clear F; intro W F)
    | ((with_reducible (show wpList _ _ _ (Oper.mk _ (Op.alloc _) _ _ _ none :: _) _ _)); refine Fv.al F rfl rfl ?_; clear F; intro g W hs1 hs2 F; clear hs1 hs2)
    | ((with_reducible (show wpList _ _ _ (Oper.mk _ (Op.call { callee := Callee.builtin Builtin.append, args := _, argTypes := _ }) _ _ _ none :: _) _ _)); refine wpList_append_own _ rfl _ _ 31 rfl w.heap.size 116 iE (.agg #[.int .i64 0, .int .i64 0]) 2 16 Tryz.underlying31 hiE hv0 hv1 hv2 rfl (by decide) (u3) (k) _ rfl (Li.own_below F.out.2.1 ((Below.refl _ _).alloc (Nat.le_refl _) _) (Nat.le_refl _)) ⟨_, 0, none⟩ 1 1 _ rfl rfl (World.news_of_block (heap_alloc_new _ _)) (by simp [Value.oneCell']) (by unfold maxLen; omega) (by omega) (Nat.le_trans F.B.size (by simp)) ?_; intro v5 w5 hown5 hgrow5 _))
   replace F := grow_all F hgrow5
   clear hgrow5
   have hx : Li.cellsL SlI.cellsE ((s.di.take k).mapIdx (imF s.t)) ++ [.int .i64 (y.no : Nat), .int .i64 ((s.t : Int) + (k : Int))] = Li.cellsL SlI.cellsE ((s.di.take (k + 1)).mapIdx (imF s.t)) := by
    rw [mapIdx_take _ HY.out, ← cells_snoc]
    simp [SlI.cellsE, imF]
   have hown6 : w5.ownsRow w.heap.size 116 2 v5 (k + 1) (Li.cellsL SlI.cellsE ((s.di.take (k + 1)).mapIdx (imF s.t))) := by rw [← hx]; exact hown5
   replace F := addOwn F hown6 rfl
   clear hown5 hown6 hx
   go_wp2_with (first
    | ((with_reducible (show wpList _ _ _ (Oper.mk _ (Op.load _ _) _ _ _ none :: _) _ _)); first | refine Fv.ldN F rfl rfl rfl (by repeat constructor) (by repeat constructor) ?_ | refine Fv.ld1 F rfl rfl rfl (by repeat constructor) (by repeat constructor) ?_)
    | ((with_reducible (show wpList _ _ _ (Oper.mk _ (Op.store _ _ _) _ _ _ none :: _) _ _)); (first | refine Fv.stN F rfl rfl rfl rfl rfl (by first | rfl | simp [Value.oneCell']) (by repeat constructor) ?_ | refine Fv.st1 F rfl rfl rfl (by first | exact (rfl : _ = Value.int _ _) | exact (rfl : _ = Value.slice _ _ _) | exact (rfl : _ = Value.bool _) | exact (rfl : _ = Value.string _)) (by rfl) (by repeat constructor) ?_); clear F; intro W F)
    | ((with_reducible (show wpList _ _ _ (Oper.mk _ (Op.alloc _) _ _ _ none :: _) _ _)); refine Fv.al F rfl rfl ?_; clear F; intro g W hs1 hs2 F; clear hs1 hs2)
    | (go_at_call 89; refine (Cl.pput_own _ c (y.no : Nat) y.data HCO.out F.out.1.2.weak F.out.1.2.1 F.out.1.2.2.1).mono ?_; rintro e2 w2 ⟨g2, n2, cc2, rfl, hn2, hc2, h02, hown2, hv⟩; have F2 := F.call hv; have KK := KF.own (t := 116) (X := X) F F2 hn2 hc2 hown2 (by decide) h02; replace F := (addKF F2 KK).weak (fun _ _ h => (show (True ∧ _) ∧ _ from ⟨⟨trivial, h.2⟩, h.1.2⟩)); clear hv F2 KK hown2))
   have hc2 : handL s.c (s.di.take (k + 1)) = Cl.putC c y.no y.data := by rw [List.take_add_one, HY.out]; exact (hand_snoc _ _ _).trans (by rw [HC.out])
   have hy2 := HK.out.1.di y (List.mem_of_getElem? HY.out)
   have hp9 := HK.out.1.h.p1
   go_roundw
   case rel => exact ⟨k + 1, _, _, _, _, by go_num, by omega, hc2, HCO.out.put (by omega) (by omega) (by omega), F.tail⟩
   case measure => simp [intOf]; omega
  ·obtain rfl : k = s.di.length := by omega
   have i1 : ¬ (s.di.length : Int) < (s.di.length : Int) := by omega
   have hx := F.out.2.1
   rw [List.take_length] at hx
   have hil : (s.di.mapIdx (imF s.t)).length = s.di.length := by simp
   obtain ⟨A7, c7, rfl, hc7, hL7⟩ := Li.list_of_own SlI.cellsE_len hx hil
   have HC2 := Lib.hid (show handL s.c s.di = c by have := HC.out; rw [List.take_length] at this; exact this)
   clear hx hL7 hc7
   go_upto_region 9 with (first
    | ((with_reducible (show wpList _ _ _ (Oper.mk _ (Op.load _ _) _ _ _ none :: _) _ _)); first | refine Fv.ldN F rfl rfl rfl (by repeat constructor) (by repeat constructor) ?_ | refine Fv.ld1 F rfl rfl rfl (by repeat constructor) (by repeat constructor) ?_)
    | ((with_reducible (show wpList _ _ _ (Oper.mk _ (Op.store _ _ _) _ _ _ none :: _) _ _)); (first | refine Fv.stN F rfl rfl rfl rfl rfl (by first | rfl | simp [Value.oneCell']) (by repeat constructor) ?_ | refine Fv.st1 F rfl rfl rfl (by first | exact (rfl : _ = Value.int _ _) | exact (rfl : _ = Value.slice _ _ _) | exact (rfl : _ = Value.bool _) | exact (rfl : _ = Value.string _)) (by rfl) (by repeat constructor) ?_); clear F; intro W F)
    | ((with_reducible (show wpList _ _ _ (Oper.mk _ (Op.alloc _) _ _ _ none :: _) _ _)); refine Fv.al F rfl rfl ?_; clear F; intro g W hs1 hs2 F; clear hs1 hs2)
    | (go_at_call 172; refine (SlI.with_any (lo := 0) (lo2 := 0) (l := s.fr) (more := s.di.mapIdx (imF s.t)) (HS.out.2.1.p.below F.B (Nat.le_refl _)) rfl HK.out.1.fu (by have hx := F.out.2.1; rw [List.take_length] at hx; obtain ⟨A8, c8, e8, _, h8⟩ := Li.list_of_own SlI.cellsE_len hx hil; injection e8 with e8 _ _; rw [e8]; exact h8.lower (Nat.zero_le _)) hil (by omega)).mono ?_; rintro e5 w5 ⟨v5, m5, rfl, hm5, hown5, hv⟩; obtain ⟨A5, c5, rfl, hX5⟩ := row_XI hown5 hm5; have F2 := F.call hv; replace F := addRow F F2 hX5; subst hm5; clear hv hown5 hX5 F2))
   refine Lex.region_parts (ops := seraw) (ops1 := seops) (calls := secalls) 4 seord (Fv.FrS _ _ _) (by kernel_rfl) secut (by rw [sesize]; decide) (by kernel_rfl) (by kernel_rfl) (by kernel_rfl) sesel (by kernel_rfl) (by kernel_rfl) selex F.drew ?_
   replace F := F.drew
   unfold seord
   refine Lex.step_take _ se0 rfl (Lex.want_none rfl) (by intro Wx hSw; clear hSw; go_simp; try (first | (with_reducible rfl) | rfl)) ?_
   simp only [Act.put, List.setIfInBounds_toArray, List.set_cons_zero, List.set_cons_succ]
   refine Lex.step_take _ se1 rfl (Lex.want_none rfl) (by intro Wx hSw; exact Fv.run_load1 hSw rfl rfl Fv.ot_int (by repeat constructor) (by repeat constructor)) ?_
   simp only [Act.put, List.setIfInBounds_toArray, List.set_cons_zero, List.set_cons_succ]
   refine Lex.step_take _ se2 rfl (Lex.want_none rfl) (by intro Wx hSw; exact Fv.run_loadN hSw rfl rfl Fv.rt_Store (by repeat constructor) (by repeat constructor)) ?_
   simp only [Act.put, List.setIfInBounds_toArray, List.set_cons_zero, List.set_cons_succ]
   refine Lex.step_call se3 rfl (Lex.want_none rfl) (fun K hK => ?_)
   go_simp
   refine (need_any _ _ _ _ _ _ _ _ _ s.h _ _ _ _ _ _ _ _ _ _ _ _ (by omega)).mono ?_
   rintro e6 w6 ⟨rfl, hv⟩
   replace F := F.call hv
   clear hv
   refine hK.out (Fv.FrS _ _ _) _ _ (fun _ h => Fv.Fr.weak h (by intro L w h; first | exact h | exact h.1 | exact h.1.1)) F ?_
   clear hK K
   try simp only [Act.put, List.setIfInBounds_toArray, List.set_cons_zero, List.set_cons_succ]
   refine Lex.tail_lex (ops := seraw) (calls := [6]) (n := 4) [4, 5, 6] (fun _ => True) sersel (by rw [sesize]; rfl) (by kernel_rfl) setlex trivial ?_
   refine Lex.step_take _ set4 rfl (Lex.want_none rfl) (by intro Wx hSw; clear hSw; go_simp; try (first | (with_reducible rfl) | rfl)) ?_
   simp only [Act.put, List.setIfInBounds_toArray, List.set_cons_zero, List.set_cons_succ]
   refine Lex.step_take _ set5 rfl (Lex.want_none rfl) (by intro Wx hSw; clear hSw; go_simp; try (first | (with_reducible rfl) | rfl)) ?_
   simp only [Act.put, List.setIfInBounds_toArray, List.set_cons_zero, List.set_cons_succ]
   refine Lex.step_call set6 rfl (Lex.want_none rfl) (fun K hK => ?_)
   refine Fv.wp_store1 F rfl rfl (show _ = Value.int _ _ from rfl) Fv.ot_int (by first | rfl | simp [Value.oneCell']) (by repeat constructor) ?_; clear F; intro W F
   refine hK.out _ _ _ (fun _ h => h) trivial ?_
   clear hK K
   try simp only [Act.put, List.setIfInBounds_toArray, List.set_cons_zero, List.set_cons_succ]
   refine NoPanic.normal ?_
   rw [show (s.t : Int) + ((s.di.length : Int) + 1) = ((s.t + (s.di.length + 1) : Nat) : Int) by omega] at F
   rw [show IntKind.i64.wrap ((s.t + (s.di.length + 1) : Nat) : Int) = ((s.t + (s.di.length + 1) : Nat) : Int) by rw [IntKind.wrap_i64]; omega] at F
   go_wp2_with (first
    | ((with_reducible (show wpList _ _ _ (Oper.mk _ (Op.load _ _) _ _ _ none :: _) _ _)); first | refine Fv.ldN F rfl rfl rfl (by repeat constructor) (by repeat constructor) ?_ | refine Fv.ld1 F rfl rfl rfl (by repeat constructor) (by repeat constructor) ?_)
    | ((with_reducible (show wpList _ _ _ (Oper.mk _ (Op.store _ _ _) _ _ _ none :: _) _ _)); (first | refine Fv.stN F rfl rfl rfl rfl rfl (by first | rfl | simp [Value.oneCell']) (by repeat constructor) ?_ | refine Fv.st1 F rfl rfl rfl (by first | exact (rfl : _ = Value.int _ _) | exact (rfl : _ = Value.slice _ _ _) | exact (rfl : _ = Value.bool _) | exact (rfl : _ = Value.string _)) (by rfl) (by repeat constructor) ?_); clear F; intro W F)
    | ((with_reducible (show wpList _ _ _ (Oper.mk _ (Op.alloc _) _ _ _ none :: _) _ _)); refine Fv.al F rfl rfl ?_; clear F; intro g W hs1 hs2 F; clear hs1 hs2))
   obtain ⟨hn1, hc1, hk1⟩ := F.out.1.1.2
   subst hn1
   refine bodyPost_ret (res_c F rfl rfl Fv.rt_Store (by repeat constructor) rfl) rfl ?_
   rw [← HP.out]
   have hst : settledR s = { s with c := c, fr := (s.di.mapIdx (imF s.t)).foldl insI s.fr, t := s.t + (s.di.length + 1), di := [] } := by unfold settledR withI; rw [HC2.out]; rfl
   rw [hst]
   exact ⟨_, rfl, ⟨_, _, _, _, _, _, _, _, _, _, _, _, _, _, _, rfl, HS.out.1.below F.B (Nat.le_refl _), F.out.2.mono (fun _ h => Or.inr h.1), HasX.nil, hk1.mono (fun _ h => h.1.1), hc1⟩, F.B⟩
end Go.Proofs.YtcgkbcgpnlogoaaGreatDoor.St
