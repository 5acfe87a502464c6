/- A list in order, with some more (store.with). -/
import Derived.Test.YtcgkbcgpnlogoaaGreatDoorSlpC
namespace Go.Proofs.YtcgkbcgpnlogoaaGreatDoor.SlP
open Go.RowKit Pac Fv Lex

theorem up_ins : ∀ {l : List E} {x : E}, Up l → Up (St.insP l x) ∧ ∀ y ∈ St.insP l x, y = x ∨ y ∈ l
 | [], x, _ => ⟨List.pairwise_singleton _ _, fun y hy => Or.inl (by simpa [St.insP] using hy)⟩
 | z :: l, x, h => by
  have h' := List.pairwise_cons.1 h
  unfold St.insP
  by_cases hz : z.no < x.no
  ·rw [if_pos hz]
   obtain ⟨h1, h2⟩ := up_ins (x := x) h'.2
   refine ⟨List.pairwise_cons.2 ⟨fun y hy => ?_, h1⟩, fun y hy => ?_⟩
   ·rcases h2 y hy with rfl | hy
    ·exact hz
    ·exact h'.1 y hy
   ·rcases List.mem_cons.1 hy with rfl | hy
    ·exact Or.inr List.mem_cons_self
    ·rcases h2 y hy with h | h
     ·exact Or.inl h
     ·exact Or.inr (List.mem_cons_of_mem _ h)
  ·rw [if_neg hz]
   by_cases he : z.no = x.no
   ·rw [if_pos he]
    exact ⟨List.pairwise_cons.2 ⟨fun y hy => by rw [← he]; exact h'.1 y hy, h'.2⟩, fun y hy => by
     rcases List.mem_cons.1 hy with h | h
     ·exact Or.inl h
     ·exact Or.inr (List.mem_cons_of_mem _ h)⟩
   ·rw [if_neg he]
    refine ⟨List.pairwise_cons.2 ⟨fun y hy => ?_, h⟩, fun y hy => by
     rcases List.mem_cons.1 hy with h | h
     ·exact Or.inl h
     ·exact Or.inr h⟩
    have hxz : x.no < z.no := by omega
    rcases List.mem_cons.1 hy with rfl | hy
    ·exact hxz
    ·have := h'.1 y hy
     omega
theorem ins_len : ∀ (l : List E) (x : E), (St.insP l x).length ≤ l.length + 1
 | [], x => Nat.le_refl _
 | z :: l, x => by
  unfold St.insP
  have := ins_len l x
  split
  ·simp; omega
  ·split <;> simp
/-- The slice owns its row, which is no variable. -/
def OwnF (base : Nat) (v : Value) (m : Nat) (l : List E) : Fact := fun L W => OwnE W base v m l ∧ ∀ k, v.ownBlock = some k → Free L W k
theorem own_lt {W : World} {base m : Nat} {v : Value} {l : List E} (h : OwnE W base v m l) : ∀ k, v.ownBlock = some k → base ≤ k ∧ k < W.heap.size := fun k hk => h.lt k hk
theorem OwnF.ext {base m : Nat} {v : Value} {l : List E} {L L' : List Nat} {W W' : World} (h : OwnF base v m l L W) (k : Ext L W L' W') : OwnF base v m l L' W' := by
 refine ⟨⟨h.1.1, ?_⟩, fun q hq => k.free _ (h.2 q hq)⟩
 rcases h.1.2 with h2 | ⟨g, cap, cur, e1, e2, e3, r⟩
 ·exact Or.inl h2
 ·exact Or.inr ⟨g, cap, cur, e1, e2, by rw [k.block g (h.2 g (by rw [e1]; rfl)), e3], r⟩
theorem own_there {W : World} {base g n cp p : Nat} {l : List E} (h : OwnE W base (.slice (some ⟨g, 0, none⟩) n cp) n l) (hp : p < n) : W.there g (p * 2) 2 := by
 obtain ⟨cur, hb, hg, h1, h2, h3, h4, h5⟩ := own_row h
 intro j hj
 refine ⟨?_, frozen_of_row W g _ _ _ hg⟩
 rw [cell_of_row W g _ _ _ _ hg]
 have : p * 2 + j < cur.size := by omega
 simp [this]
def WithPost (l : List E) (w : World) (e : Ending) (w' : World) : Prop := ∃ v m, e = .returned v ∧ l.length = m ∧ OwnE w' w.heap.size v m l ∧ Below w.heap.size w w'
set_option maxRecDepth 20000 in
set_option maxHeartbeats 6400000 in
theorem with_any {A A2 : Option Addr} {n cp n2 cp2 lo lo2 : Nat} {l more : List E} {w : World} (hl : HasE w lo A l) (hn : l.length = n) (hu : Up l) (hm : HasE w lo2 A2 more) (hn2 : more.length = n2) (h9 : n + n2 ≤ 10000) :
  Calls Tryz.prog 132 #[.slice A n cp, .func (.func 86) #[] #[], .slice A2 n2 cp2] w (WithPost (more.foldl St.insP l) w) := by
 obtain ⟨post, hpost⟩ : ∃ post, WithPost (more.foldl St.insP l) w = post := ⟨_, rfl⟩
 rw [hpost]
 have HP := Lib.hid hpost
 clear hpost
 have HCL := Lib.hid (clone_any (cp := cp) lo hl hn (by omega))
 have HM := Lib.hid (And.intro hm hn2)
 have HU := Lib.hid (And.intro hu hn)
 clear hl hm hu hn2
 go_enter Tryz.func132, Tryz.ntmps132
 go_wp2_with fail
 refine HCL.out.mono ?_
 rintro e w1 ⟨v0, rfl, hown0, hb0⟩
 go_upto_region 3 with fail
 go_loopw [0, 15] (fun s0 s15 wr => ∃ (k m : Nat) (L : List E), s15 = .int .i64 (k : Nat) ∧ k ≤ n2 ∧ m ≤ n + k ∧ Hid ((more.take k).foldl St.insP l = L) ∧ Hid (L.length = m) ∧ Hid (Up L) ∧ Hid (OwnE wr w.heap.size s0 m L) ∧ Hid (Below w.heap.size w wr)) (fun _ s15 _ => n2 - (intOf s15).toNat)
 case atStart => exact ⟨0, n, l, rfl, Nat.zero_le _, by omega, rfl, HU.out.2, HU.out.1, hown0, hb0⟩
 case round =>
  clear hown0 hb0 HCL
  obtain ⟨k, m, L, rfl, hk2, hmk, HF, HLN, HUP, HOWN, HB⟩ := hrel
  by_cases hlt : k < n2
  ·have i1 : (k : Int) < (n2 : Int) := by omega
   have i0 : (0 : Int) ≤ (k : Int) := by omega
   have hkm : k < more.length := by rw [HM.out.2]; exact hlt
   obtain ⟨e, he⟩ : ∃ e, more[k]? = some e := ⟨_, List.getElem?_eq_getElem hkm⟩
   obtain ⟨b2, o2, rfl, _, hb2, hR⟩ := HasE.at HM.out.1 he
   have c0 : (_ : World).cell? ⟨b2, o2 + k * 2, none⟩ = some (.int .i64 (e.no : Nat)) := (HB.out.cell (p := ⟨b2, o2 + k * 2, none⟩) hb2).trans (hR 0 _ rfl)
   have c1 : (_ : World).cell? ⟨b2, o2 + k * 2 + 1, none⟩ = some (.string e.data) := (HB.out.cell (p := ⟨b2, o2 + k * 2 + 1, none⟩) hb2).trans (hR 1 _ rfl)
   have HF2 : Hid ((more.take (k + 1)).foldl St.insP l = St.insP L e) := by
    show (more.take (k + 1)).foldl St.insP l = St.insP L e
    rw [List.take_add_one, he, List.foldl_append, HF.out]
    rfl
   clear he hR hkm
   have F := (Fr.of_B HB.out).add (Ψ := OwnF w.heap.size u0 m L) (fun _ _ x => OwnF.ext ⟨HOWN.out, fun q hq => ⟨(own_lt HOWN.out q hq).2, by simp⟩⟩ x)
   obtain ⟨A', c', rfl, hc', _⟩ := Li.list_of_own cellsE_len HOWN.out HLN.out
   clear HOWN HB
   go_upto_region 6 with (first
    | ((with_reducible (show wpList _ _ _ (Oper.mk _ (Op.load _ _) _ _ _ none :: _) _ _)); first | refine Fv.wpL_loadN F rfl rfl rfl (by first | exact Fv.rt_Slab | exact Fv.rt_Head | exact Fv.rt_Store | exact Fv.rt_Clock | exact Fv.rt_Frame | exact Fv.rt_Page | exact Fv.rt_Image) (by repeat constructor) (by repeat constructor) ?_ | refine Fv.wpL_load1 F rfl rfl rfl (by first | exact Fv.ot_int | exact Fv.ot_string | exact Fv.ot_bool | exact Fv.ot_Errno | exact Fv.ot_Images | exact Fv.ot_Pages) (by repeat constructor) (by repeat constructor) ?_)
    | ((with_reducible (show wpList _ _ _ (Oper.mk _ (Op.store _ _ _) _ _ _ none :: _) _ _)); first | (refine Fv.wpL_storeN F rfl rfl rfl rfl (by first | exact Fv.rt_Slab | exact Fv.rt_Head | exact Fv.rt_Store | exact Fv.rt_Clock | exact Fv.rt_Frame | exact Fv.rt_Page | exact Fv.rt_Image) rfl (by first | rfl | simp [Value.oneCell']) (by repeat constructor) ?_; clear F; intro W F) | (refine Fv.wpL_store1 F rfl rfl rfl rfl (by first | exact Fv.ot_int | exact Fv.ot_string | exact Fv.ot_bool | exact Fv.ot_Errno | exact Fv.ot_Images | exact Fv.ot_Pages) (by first | rfl | simp [Value.oneCell']) (by repeat constructor) ?_; clear F; intro W F))
    | ((with_reducible (show wpList _ _ _ (Oper.mk _ (Op.alloc _) _ _ _ none :: _) _ _)); refine Fv.wpL_alloc F rfl rfl (by first | exact Fv.zt_Slab | exact Fv.zt_Head | exact Fv.zt_Frame | exact Fv.zt_Clock | exact Fv.zt_Page | exact Fv.zt_Image | exact Fv.zt_Store) ?_; clear F; intro g W hs1 hs2 F; clear hs1 hs2)
    | ((with_reducible (show wpList _ _ _ (Oper.mk _ (Op.box _ _) _ _ _ none :: _) _ _)); refine Fv.wpL_box F rfl rfl rfl rfl ?_; clear F; intro g W hs1 hs2 F; clear hs1 hs2)
    | (go_at_call 85; refine (bsearch_any (lo := 0) (l := L) _ _ (by obtain ⟨A3, c3, e3, _, h3⟩ := Li.list_of_own cellsE_len F.out.2.1 HLN.out; injection e3 with e3 _ _; rw [e3]; exact h3.lower (Nat.zero_le _)) HLN.out (by omega) HUP.out).mono ?_; rintro e w1 ⟨rfl, hv⟩; replace F := F.call hv; clear hv))
   clear c0 c1
   have hpl := pos_le L e.no
   have hlen2 := (up_ins (x := e) HUP.out).1
   have hil := ins_len L e
   have HLn2 := HLN.out
   cases hf : fnd L e.no with
   | true =>
    obtain ⟨y, hy, hyk⟩ := fnd_at hf
    have hpm : pos L e.no < m := by rw [← HLN.out]; exact (List.getElem?_eq_some_iff.1 hy).1
    have hset := ins_set hy hyk
    have hsl : (St.insP L e).length = m := by rw [← hset, List.length_set]; exact HLN.out
    obtain ⟨g5, rfl⟩ : ∃ g5, A' = some ⟨g5, 0, none⟩ := by
     rcases F.out.2.1.2 with ⟨_, h0⟩ | ⟨g5, _, _, e5, _⟩
     ·omega
     ·injection e5 with e5 _ _
      exact ⟨g5, e5⟩
    obtain ⟨p, hp⟩ : ∃ p, pos L e.no = p := ⟨_, rfl⟩
    rw [hp] at hset hpm ⊢
    have HS := Lib.hid (And.intro hset hsl)
    clear hset hy hyk hf hp hpl
    have p0 : (0 : Int) ≤ (p : Int) := by omega
    have p1 : (p : Int) < (m : Int) := by omega
    go_upto_region 7 with (first
     | ((with_reducible (show wpList _ _ _ (Oper.mk _ (Op.load _ _) _ _ _ none :: _) _ _)); first | refine Fv.wpL_loadN F rfl rfl rfl (by first | exact Fv.rt_Slab | exact Fv.rt_Head | exact Fv.rt_Store | exact Fv.rt_Clock | exact Fv.rt_Frame | exact Fv.rt_Page | exact Fv.rt_Image) (by repeat constructor) (by repeat constructor) ?_ | refine Fv.wpL_load1 F rfl rfl rfl (by first | exact Fv.ot_int | exact Fv.ot_string | exact Fv.ot_bool | exact Fv.ot_Errno | exact Fv.ot_Images | exact Fv.ot_Pages) (by repeat constructor) (by repeat constructor) ?_)
     | ((with_reducible (show wpList _ _ _ (Oper.mk _ (Op.store _ _ _) _ _ _ none :: _) _ _)); first | (refine Fv.wpL_storeN F rfl rfl rfl rfl (by first | exact Fv.rt_Slab | exact Fv.rt_Head | exact Fv.rt_Store | exact Fv.rt_Clock | exact Fv.rt_Frame | exact Fv.rt_Page | exact Fv.rt_Image) rfl (by first | rfl | simp [Value.oneCell']) (by repeat constructor) ?_; clear F; intro W F) | (refine Fv.wpL_store1 F rfl rfl rfl rfl (by first | exact Fv.ot_int | exact Fv.ot_string | exact Fv.ot_bool | exact Fv.ot_Errno | exact Fv.ot_Images | exact Fv.ot_Pages) (by first | rfl | simp [Value.oneCell']) (by repeat constructor) ?_; clear F; intro W F))
     | ((with_reducible (show wpList _ _ _ (Oper.mk _ (Op.alloc _) _ _ _ none :: _) _ _)); refine Fv.wpL_alloc F rfl rfl (by first | exact Fv.zt_Slab | exact Fv.zt_Head | exact Fv.zt_Frame | exact Fv.zt_Clock | exact Fv.zt_Page | exact Fv.zt_Image | exact Fv.zt_Store) ?_; clear F; intro g W hs1 hs2 F; clear hs1 hs2)
     | ((with_reducible (show wpList _ _ _ (Oper.mk _ (Op.box _ _) _ _ _ none :: _) _ _)); refine Fv.wpL_box F rfl rfl rfl rfl ?_; clear F; intro g W hs1 hs2 F; clear hs1 hs2))
    go_wp2_with (first
     | ((with_reducible (show wpList _ _ _ (Oper.mk _ (Op.store _ _ _) _ _ _ none :: _) _ _)); refine wpList_store_mid rfl 133 _ _ rfl g5 (p * 2) #[.int .i64 (e.no : Nat), .string e.data] rfl rfl (own_there F.out.2.1 (by omega)) (by rw [rt_Page.i]; rfl) (by simp [Value.oneCell']) ?_)
     | ((with_reducible (show wpList _ _ _ (Oper.mk _ (Op.load _ _) _ _ _ none :: _) _ _)); first | refine Fv.wpL_loadN F rfl rfl rfl (by first | exact Fv.rt_Slab | exact Fv.rt_Head | exact Fv.rt_Store | exact Fv.rt_Clock | exact Fv.rt_Frame | exact Fv.rt_Page | exact Fv.rt_Image) (by repeat constructor) (by repeat constructor) ?_ | refine Fv.wpL_load1 F rfl rfl rfl (by first | exact Fv.ot_int | exact Fv.ot_string | exact Fv.ot_bool | exact Fv.ot_Errno | exact Fv.ot_Images | exact Fv.ot_Pages) (by repeat constructor) (by repeat constructor) ?_)
     | ((with_reducible (show wpList _ _ _ (Oper.mk _ (Op.store _ _ _) _ _ _ none :: _) _ _)); first | (refine Fv.wpL_storeN F rfl rfl rfl rfl (by first | exact Fv.rt_Slab | exact Fv.rt_Head | exact Fv.rt_Store | exact Fv.rt_Clock | exact Fv.rt_Frame | exact Fv.rt_Page | exact Fv.rt_Image) rfl (by first | rfl | simp [Value.oneCell']) (by repeat constructor) ?_; clear F; intro W F) | (refine Fv.wpL_store1 F rfl rfl rfl rfl (by first | exact Fv.ot_int | exact Fv.ot_string | exact Fv.ot_bool | exact Fv.ot_Errno | exact Fv.ot_Images | exact Fv.ot_Pages) (by first | rfl | simp [Value.oneCell']) (by repeat constructor) ?_; clear F; intro W F))
     | ((with_reducible (show wpList _ _ _ (Oper.mk _ (Op.alloc _) _ _ _ none :: _) _ _)); refine Fv.wpL_alloc F rfl rfl (by first | exact Fv.zt_Slab | exact Fv.zt_Head | exact Fv.zt_Frame | exact Fv.zt_Clock | exact Fv.zt_Page | exact Fv.zt_Image | exact Fv.zt_Store) ?_; clear F; intro g W hs1 hs2 F; clear hs1 hs2)
     | ((with_reducible (show wpList _ _ _ (Oper.mk _ (Op.box _ _) _ _ _ none :: _) _ _)); refine Fv.wpL_box F rfl rfl rfl rfl ?_; clear F; intro g W hs1 hs2 F; clear hs1 hs2))
    obtain ⟨e1, e2, e3, e4, e5⟩ := setCells_other g5 [.int .i64 (e.no : Nat), .string e.data] (p * 2) w1
    have hO := own_storeE F.out.2.1 p e
    rw [HS.out.1] at hO
    have hfree := F.out.2.2 g5 rfl
    have F2 := F.off (own_lt F.out.2.1 g5 rfl).1 hfree e1 e2 e3 e4 e5
    go_roundw
    case rel => exact ⟨k + 1, m, St.insP L e, by go_num, by omega, by omega, HF2, HS.out.2, hlen2, hO, F2.B⟩
    case measure => simp [intOf]; omega
   | false =>
    have hnew := ins_new (x := e) (fnd_no hf)
    have HN := Lib.hid hnew
    clear hnew hf
    go_upto_region 8 with (first
     | ((with_reducible (show wpList _ _ _ (Oper.mk _ (Op.load _ _) _ _ _ none :: _) _ _)); first | refine Fv.wpL_loadN F rfl rfl rfl (by first | exact Fv.rt_Slab | exact Fv.rt_Head | exact Fv.rt_Store | exact Fv.rt_Clock | exact Fv.rt_Frame | exact Fv.rt_Page | exact Fv.rt_Image) (by repeat constructor) (by repeat constructor) ?_ | refine Fv.wpL_load1 F rfl rfl rfl (by first | exact Fv.ot_int | exact Fv.ot_string | exact Fv.ot_bool | exact Fv.ot_Errno | exact Fv.ot_Images | exact Fv.ot_Pages) (by repeat constructor) (by repeat constructor) ?_)
     | ((with_reducible (show wpList _ _ _ (Oper.mk _ (Op.store _ _ _) _ _ _ none :: _) _ _)); first | (refine Fv.wpL_storeN F rfl rfl rfl rfl (by first | exact Fv.rt_Slab | exact Fv.rt_Head | exact Fv.rt_Store | exact Fv.rt_Clock | exact Fv.rt_Frame | exact Fv.rt_Page | exact Fv.rt_Image) rfl (by first | rfl | simp [Value.oneCell']) (by repeat constructor) ?_; clear F; intro W F) | (refine Fv.wpL_store1 F rfl rfl rfl rfl (by first | exact Fv.ot_int | exact Fv.ot_string | exact Fv.ot_bool | exact Fv.ot_Errno | exact Fv.ot_Images | exact Fv.ot_Pages) (by first | rfl | simp [Value.oneCell']) (by repeat constructor) ?_; clear F; intro W F))
     | ((with_reducible (show wpList _ _ _ (Oper.mk _ (Op.alloc _) _ _ _ none :: _) _ _)); refine Fv.wpL_alloc F rfl rfl (by first | exact Fv.zt_Slab | exact Fv.zt_Head | exact Fv.zt_Frame | exact Fv.zt_Clock | exact Fv.zt_Page | exact Fv.zt_Image | exact Fv.zt_Store) ?_; clear F; intro g W hs1 hs2 F; clear hs1 hs2)
     | ((with_reducible (show wpList _ _ _ (Oper.mk _ (Op.box _ _) _ _ _ none :: _) _ _)); refine Fv.wpL_box F rfl rfl rfl rfl ?_; clear F; intro g W hs1 hs2 F; clear hs1 hs2))
    have F0 := F
    go_wp2_with (first
     | ((with_reducible (show wpList _ _ _ (Oper.mk _ (Op.load _ _) _ _ _ none :: _) _ _)); first | refine Fv.wpL_loadN F rfl rfl rfl (by first | exact Fv.rt_Slab | exact Fv.rt_Head | exact Fv.rt_Store | exact Fv.rt_Clock | exact Fv.rt_Frame | exact Fv.rt_Page | exact Fv.rt_Image) (by repeat constructor) (by repeat constructor) ?_ | refine Fv.wpL_load1 F rfl rfl rfl (by first | exact Fv.ot_int | exact Fv.ot_string | exact Fv.ot_bool | exact Fv.ot_Errno | exact Fv.ot_Images | exact Fv.ot_Pages) (by repeat constructor) (by repeat constructor) ?_)
     | ((with_reducible (show wpList _ _ _ (Oper.mk _ (Op.store _ _ _) _ _ _ none :: _) _ _)); first | (refine Fv.wpL_storeN F rfl rfl rfl rfl (by first | exact Fv.rt_Slab | exact Fv.rt_Head | exact Fv.rt_Store | exact Fv.rt_Clock | exact Fv.rt_Frame | exact Fv.rt_Page | exact Fv.rt_Image) rfl (by first | rfl | simp [Value.oneCell']) (by repeat constructor) ?_; clear F; intro W F) | (refine Fv.wpL_store1 F rfl rfl rfl rfl (by first | exact Fv.ot_int | exact Fv.ot_string | exact Fv.ot_bool | exact Fv.ot_Errno | exact Fv.ot_Images | exact Fv.ot_Pages) (by first | rfl | simp [Value.oneCell']) (by repeat constructor) ?_; clear F; intro W F))
     | ((with_reducible (show wpList _ _ _ (Oper.mk _ (Op.alloc _) _ _ _ none :: _) _ _)); refine Fv.wpL_alloc F rfl rfl (by first | exact Fv.zt_Slab | exact Fv.zt_Head | exact Fv.zt_Frame | exact Fv.zt_Clock | exact Fv.zt_Page | exact Fv.zt_Image | exact Fv.zt_Store) ?_; clear F; intro g W hs1 hs2 F; clear hs1 hs2)
     | ((with_reducible (show wpList _ _ _ (Oper.mk _ (Op.box _ _) _ _ _ none :: _) _ _)); refine Fv.wpL_box F rfl rfl rfl rfl ?_; clear F; intro g W hs1 hs2 F; clear hs1 hs2)
     | (go_at_call 198; fail))
    have hb7 := (Below.refl w1.heap.size w1).alloc (Nat.le_refl _) (.cells #[.int .i64 (e.no : Nat), .string e.data] 133)
    refine (insert_any (base := w.heap.size) e (Li.own_below F.out.2.1 hb7 (Nat.le_refl _)) HLN.out (by omega) (by omega) (Nat.le_trans F.B.size hb7.size) (fun hc => by have := own_lt F.out.2.1 _ hc; omega) (heap_alloc_new w1 _)).mono ?_
    rintro e9 w9 ⟨v9, m9, rfl, hm9, hown9, hb9⟩
    rw [HN.out] at hm9 hown9
    have HB9 := Lib.hid ((F.B.trans (hb7.mono F.B.size)).trans hb9)
    clear F hb7 hb9
    go_wp2_with (first
     | ((with_reducible (show wpList _ _ _ (Oper.mk _ (Op.load _ _) _ _ _ none :: _) _ _)); first | refine Fv.wpL_loadN F rfl rfl rfl (by first | exact Fv.rt_Slab | exact Fv.rt_Head | exact Fv.rt_Store | exact Fv.rt_Clock | exact Fv.rt_Frame | exact Fv.rt_Page | exact Fv.rt_Image) (by repeat constructor) (by repeat constructor) ?_ | refine Fv.wpL_load1 F rfl rfl rfl (by first | exact Fv.ot_int | exact Fv.ot_string | exact Fv.ot_bool | exact Fv.ot_Errno | exact Fv.ot_Images | exact Fv.ot_Pages) (by repeat constructor) (by repeat constructor) ?_)
     | ((with_reducible (show wpList _ _ _ (Oper.mk _ (Op.store _ _ _) _ _ _ none :: _) _ _)); first | (refine Fv.wpL_storeN F rfl rfl rfl rfl (by first | exact Fv.rt_Slab | exact Fv.rt_Head | exact Fv.rt_Store | exact Fv.rt_Clock | exact Fv.rt_Frame | exact Fv.rt_Page | exact Fv.rt_Image) rfl (by first | rfl | simp [Value.oneCell']) (by repeat constructor) ?_; clear F; intro W F) | (refine Fv.wpL_store1 F rfl rfl rfl rfl (by first | exact Fv.ot_int | exact Fv.ot_string | exact Fv.ot_bool | exact Fv.ot_Errno | exact Fv.ot_Images | exact Fv.ot_Pages) (by first | rfl | simp [Value.oneCell']) (by repeat constructor) ?_; clear F; intro W F))
     | ((with_reducible (show wpList _ _ _ (Oper.mk _ (Op.alloc _) _ _ _ none :: _) _ _)); refine Fv.wpL_alloc F rfl rfl (by first | exact Fv.zt_Slab | exact Fv.zt_Head | exact Fv.zt_Frame | exact Fv.zt_Clock | exact Fv.zt_Page | exact Fv.zt_Image | exact Fv.zt_Store) ?_; clear F; intro g W hs1 hs2 F; clear hs1 hs2)
     | ((with_reducible (show wpList _ _ _ (Oper.mk _ (Op.box _ _) _ _ _ none :: _) _ _)); refine Fv.wpL_box F rfl rfl rfl rfl ?_; clear F; intro g W hs1 hs2 F; clear hs1 hs2))
    go_roundw
    case rel => exact ⟨k + 1, m9, St.insP L e, by go_num, by omega, by omega, HF2, hm9, hlen2, hown9, HB9⟩
    case measure => simp [intOf]; omega
  ·obtain rfl : k = n2 := by omega
   have i1 : ¬ (k : Int) < (k : Int) := by omega
   go_wp2
   rw [← HP.out]
   have hF := HF.out
   rw [← HM.out.2, List.take_length] at hF
   exact ⟨_, m, rfl, by rw [hF]; exact HLN.out, by rw [hF]; exact HOWN.out, HB.out⟩
end Go.Proofs.YtcgkbcgpnlogoaaGreatDoor.SlP
