/- Texts HaO, HaP, one behind the other. -/
import Derived.Test.YtocmkjccaajnnaaHaN
/- An index: what the document's examples come to, plainly. -/
namespace Go.Proofs.Ytocmkjccaajnnaa.Ha
open Go.RowKit Pac Bu Ls Lex Go.Proofs.Ytocmkjccaajnnaa.Or

theorem fine_ok {e : E} (h : FineP e) : e.Ok := ⟨by have := h.1; omega, by have := h.2.1.1; omega, by have := h.2.1.2; omega, by have := h.2.2.1; omega, by have := h.2.2.2; omega⟩
theorem Idx.small {h : H} {i : Nat} (hh : Idx spread h i) (hi : i ≤ 200) : (∀ r ∈ h.bs, r.length ≤ i) ∧ (∀ r ∈ h.bs, ∀ e ∈ r, FineP e) :=
  ⟨fun r hr => Nat.le_trans (len_countH h hr) hh.cnt, fun r hr e he => hh.ent e ⟨r, hr, he⟩⟩
theorem Idx.may {h : H} {i : Nat} (hh : Idx spread h i) (hi : i ≤ 200) : MayH (h.lv : Nat) (h.nx : Nat) h.bs := by
  have h8 := hh.is.l8
  have hn := hh.is.nx
  have hl := hh.is.len
  refine ⟨by omega, by omega, by omega, ?_, ?_, fun b hb => ?_, fun j b hb e he => ?_⟩
  · rw [Int.toNat_natCast]
    omega
  · rw [Int.toNat_natCast, hl]
    omega
  · have hf := (hh.small hi).2 b hb
    exact ⟨hh.is.ris b hb, by have := (hh.small hi).1 b hb; omega, fun e he => (hf e he).1, fun e he => (hf e he).2.1, fun e he => (hf e he).2.2⟩
  · rw [Int.toNat_natCast, Int.toNat_natCast]
    exact hh.is.own j b hb e he
theorem drop_old {f : List UInt8 → Nat} {h : H} (hh : IsH f h) {k : List UInt8} (hk : hasK h k) : countH (dropH f h k) + 1 = countH h := by
  rw [← keys_len, ← keys_len, ← List.length_cons (a := k)]
  refine nodup_same (List.nodup_cons.2 ⟨fun h' => ((drop_has hh k k).1 ((keys_mem _).1 h')).1 rfl, (drop_is hh k).nodup⟩) hh.nodup fun x => ?_
  rw [keys_mem, List.mem_cons, keys_mem, drop_has hh]
  constructor
  · rintro (rfl | h')
    · exact hk
    · exact h'.2
  · intro hx
    by_cases e : x = k
    · exact Or.inl e
    · exact Or.inr ⟨e, hx⟩
def ck (q : Nat) : ByteArray := ⟨#[UInt8.ofNat (97 + q)]⟩
theorem ck_enc : ∀ q : Nat, q < 5 → Utf8.encode (97 + (q : Int)) = ck q
  | 0, _ => by kernel_rfl
  | 1, _ => by kernel_rfl
  | 2, _ => by kernel_rfl
  | 3, _ => by kernel_rfl
  | 4, _ => by kernel_rfl
  | q + 5, h => absurd h (by omega)
theorem ck_ne {p q : Nat} (hp : p < 5) (hq : q < 5) (h : p ≠ q) : (ck p).data.toList ≠ (ck q).data.toList := by
  intro e
  have e : [UInt8.ofNat (97 + p)] = [UInt8.ofNat (97 + q)] := e
  injection e with e
  have := congrArg UInt8.toNat e
  simp at this
  omega
theorem ck_size (q : Nat) : (ck q).size = 1 := rfl
def ce (q : Nat) : E := ⟨ck q, 0, (q : Int)⟩
def aw : Nat → H
  | 0 => newH
  | q + 1 => putH spread (aw q) (ce q)
theorem ce_fine {q : Nat} (hq : q < 5) : FineP (ce q) := ⟨by show (ck q).size ≤ 61; rw [ck_size]; omega, ⟨by show (0 : Int) ≤ 0; omega, by show (0 : Int) < 64; omega⟩, ⟨by show (0 : Int) ≤ (q : Int); omega, by show (q : Int) < 8; omega⟩⟩
theorem aw_idx : ∀ q, q ≤ 5 → Idx spread (aw q) q
  | 0, _ => Idx.new
  | q + 1, h => (aw_idx q (by omega)).put (by omega) (ce_fine (by omega))
theorem aw_has : ∀ q, q ≤ 5 → ∀ k, hasK (aw q) k → ∃ j, j < q ∧ k = (ck j).data.toList
  | 0, _, k, h => by
    obtain ⟨e, he, _⟩ := h
    exact absurd he (new_mem e)
  | q + 1, hq, k, h => by
    rcases (put_has (aw_idx q (by omega)).is (ce q) k).1 h with h | h
    · exact ⟨q, by omega, h⟩
    · obtain ⟨j, hj, hk⟩ := aw_has q (by omega) k h
      exact ⟨j, by omega, hk⟩
theorem aw_count : ∀ q, q ≤ 5 → countH (aw q) = q ∧ (aw q).bs.length = if q ≤ 4 then 1 else 2
  | 0, _ => ⟨rfl, rfl⟩
  | q + 1, hq => by
    obtain ⟨h1, h2⟩ := aw_count q (by omega)
    obtain ⟨h3, h4⟩ := (aw_idx q (by omega)).put_new (by omega) (e := ce q) (fun h => by
      obtain ⟨j, hj, hk⟩ := aw_has q (by omega) _ h
      exact ck_ne (by omega) (by omega) (by omega) hk)
    refine ⟨by show countH (putH spread (aw q) (ce q)) = _; rw [h3, h1], ?_⟩
    show (putH spread (aw q) (ce q)).bs.length = _
    rw [h4, h1, h2, if_pos (show q ≤ 4 by omega)]
    by_cases h5 : q + 1 ≤ 4
    · rw [if_neg (show ¬ 4 * 1 < q + 1 by omega), if_pos h5]
    · rw [if_pos (show 4 * 1 < q + 1 by omega), if_neg h5]
theorem aw_lv : (aw 5).lv = 1 ∧ (aw 5).nx = 0 := by
  have hi := (aw_idx 5 (by omega)).is
  have hl := (aw_count 5 (by omega)).2
  rw [if_neg (by omega)] at hl
  have h1 := hi.len
  exact len_tells hi.nx (by decide : (0 : Nat) < 2 ^ 1) (by rw [← h1, hl])
theorem aw_get : getH spread (aw 5) [99] = some (ce 2) := by
  have i2 := (aw_idx 2 (by omega)).is
  have i3 := (aw_idx 3 (by omega)).is
  have i4 := (aw_idx 4 (by omega)).is
  show getH spread (putH spread (putH spread (putH spread (aw 2) (ce 2)) (ce 3)) (ce 4)) [99] = _
  have e4 : (ce 4).k = [101] := rfl
  have e3 : (ce 3).k = [100] := rfl
  have e2 : (ce 2).k = [99] := rfl
  rw [get_put (show IsH spread (putH spread (putH spread (aw 2) (ce 2)) (ce 3)) from i4), e4, if_neg (by decide), get_put (show IsH spread (putH spread (aw 2) (ce 2)) from i3), e3, if_neg (by decide), get_put i2, e2, if_pos rfl]
theorem aw_has3 : hasK (aw 5) [99] := by
  rw [(aw_idx 5 (by omega)).is.has_get, aw_get]
  rfl
theorem aw_drop : countH (dropH spread (aw 5) [99]) = 4 := by
  have h1 := drop_old (aw_idx 5 (by omega)).is aw_has3
  have h2 := (aw_count 5 (by omega)).1
  omega
theorem aw_gone : getH spread (dropH spread (aw 5) [99]) [99] = none := by
  rw [get_drop (aw_idx 5 (by omega)).is, if_pos rfl]
theorem may_empty : ¬ MayH 0 0 [] := fun h => by
  have := h.len
  simp at this
theorem new_halved : (halveH spread newH).bs.length = 2 := by
  rw [halve_len (by show (0 : Nat) < 8; omega)]
  rfl
end Go.Proofs.Ytocmkjccaajnnaa.Ha

/- An index: the document's examples, walked. -/
namespace Go.Proofs.Ytocmkjccaajnnaa.Ha
open Go.RowKit Pac Bu Ls Lex Go.Proofs.Ytocmkjccaajnnaa.Or

theorem field_bs (a b : Value) (A : Option Addr) (n c : Nat) (w : World) : (Instr.field 27 (.agg #[a, b, .slice A n c]) 2).run Try.prog w = .ok (.slice A n c) w := by
  simp [Instr.field, run_underlying Try.underlying27, asAgg, part]
/-- A variable that holds an index whose buckets lie in blocks of X. -/
structure VarH (w : World) (g : Nat) (X : Nat → Prop) (h : H) (A : Option Addr) (n cp : Nat) : Prop where
  b : Box3 w g (.int .i64 (h.lv : Nat)) (.int .i64 (h.nx : Nat)) (.slice A n cp)
  hn : h.bs.length = n
  hc : n ≤ cp
  hb : HasBsX w X A h.bs
theorem VarH.below {w w' : World} {g n cp : Nat} {X : Nat → Prop} {h : H} {A : Option Addr} (v : VarH w g X h A n cp) (hb : Below w.heap.size w w') : VarH w' g X h A n cp :=
  ⟨v.b.below hb v.b.lt, v.hn, v.hc, v.hb.below hb (Nat.le_refl _)⟩
theorem VarH.new {w : World} {X : Nat → Prop} {h : H} {A : Option Addr} {n cp : Nat} (hn : h.bs.length = n) (hc : n ≤ cp) (hb : HasBsX w X A h.bs) : VarH (w.alloc (.cells #[.int .i64 (h.lv : Nat), .int .i64 (h.nx : Nat), .slice A n cp] 27)) w.heap.size X h A n cp :=
  ⟨Box3.new w _ _ _ _, hn, hc, hb.below ((Below.refl w.heap.size w).alloc (Nat.le_refl _) _) (Nat.le_refl _)⟩
/-- The value is stored. -/
theorem VarH.store {w : World} {g : Nat} {X : Nat → Prop} {v0 v1 v2 : Value} (hx : Box3 w g v0 v1 v2) {h : H} {A : Option Addr} {n cp : Nat} (hn : h.bs.length = n) (hc : n ≤ cp) (hb : HasBsX w X A h.bs) (hX : ¬ X g) :
    VarH (((w.setCell ⟨g, 0, none⟩ (.int .i64 (h.lv : Nat))).setCell ⟨g, 1, none⟩ (.int .i64 (h.nx : Nat))).setCell ⟨g, 2, none⟩ (.slice A n cp)) g X h A n cp :=
  ⟨((hx.set0 _).set1 _).set2 _, hn, hc, hb.bar hX ((((Bar.refl g w).setCell 0 _).setCell 1 _).setCell 2 _)⟩
/-- Another variable is stored to. -/
theorem VarH.other {w : World} {g g' : Nat} {X : Nat → Prop} {h : H} {A : Option Addr} {n cp : Nat} (v : VarH w g X h A n cp) (hne : g ≠ g') (hX : ¬ X g') (a b c : Value) :
    VarH (((w.setCell ⟨g', 0, none⟩ a).setCell ⟨g', 1, none⟩ b).setCell ⟨g', 2, none⟩ c) g X h A n cp :=
  have hb := (((Bar.refl g' w).setCell 0 a).setCell 1 b).setCell 2 c
  ⟨v.b.bar hb hne, v.hn, v.hc, v.hb.bar hX hb⟩
theorem VarH.newcell {w : World} {g n cp : Nat} {X : Nat → Prop} {h : H} {A : Option Addr} (v : VarH w g X h A n cp) (o : Obj) : VarH (w.alloc o) g (fun b => X b ∧ b < w.heap.size) h A n cp :=
  ⟨v.b.alloc o, v.hn, v.hc, v.hb.lt.below ((Below.refl w.heap.size w).alloc (Nat.le_refl _) o) (Nat.le_refl _)⟩
theorem VarH.bar {w w' : World} {g q n cp : Nat} {X : Nat → Prop} {h : H} {A : Option Addr} (v : VarH w g X h A n cp) (hb : Bar q w w') (hne : g ≠ q) (hX : ¬ X q) : VarH w' g X h A n cp :=
  ⟨v.b.bar hb hne, v.hn, v.hc, v.hb.bar hX hb⟩
theorem VarH.weak {w : World} {g n cp : Nat} {X Y : Nat → Prop} {h : H} {A : Option Addr} (v : VarH w g X h A n cp) (hXY : ∀ b, X b → Y b) : VarH w g Y h A n cp := ⟨v.b, v.hn, v.hc, v.hb.mono hXY⟩
theorem hash_x {h : H} {w : World} {X Y : Nat → Prop} {A : Option Addr} (hb : HasBsX w (fun b => X b ∨ Y b) A h.bs) (hY : ∀ b, Y b → X b) : HasBsX w X A h.bs := hb.mono fun b h => h.elim id (hY b)
theorem store3_below {w0 w : World} {B g : Nat} (hb : Below B w0 w) (hg : B ≤ g) (a b c : Value) : Below B w0 (((w.setCell ⟨g, 0, none⟩ a).setCell ⟨g, 1, none⟩ b).setCell ⟨g, 2, none⟩ c) :=
  ((hb.setCell (p := ⟨g, 0, none⟩) hg a).setCell (p := ⟨g, 1, none⟩) hg b).setCell (p := ⟨g, 2, none⟩) hg c
theorem may_set {h : H} {i : Nat} (hh : Idx spread h i) (hi : i ≤ 200) {w : World} {A : Option Addr} {n cp : Nat} (hb : HasBs w 0 A h.bs) (hn : h.bs.length = n) (hc : n ≤ cp) :
    Calls Try.prog 23 #[.agg #[.int .i64 (h.lv : Nat), .int .i64 (h.nx : Nat), .slice A n cp]] w (fun e w' => e = .returned (.bool true) ∧ Below w.heap.size w w') := by
  have hs := hh.small hi
  have hl := hh.len
  have h8 := hh.is.l8
  have hx := hh.is.nx
  have hln := hh.is.len
  refine (right_any (h.lv : Nat) (h.nx : Nat) h.bs 0 hb hn hc (by omega) (fun r hr => by have := hs.1 r hr; omega) (fun r hr e he => fine_ok (hs.2 r hr e he)) (by omega) (by omega) (by omega) (by omega)).mono ?_
  rintro e w' ⟨b, rfl, hm, hB⟩
  have : b = true := hm.2 (hh.may hi)
  subst this
  exact ⟨rfl, hB⟩
set_option maxRecDepth 20000 in
set_option maxHeartbeats 6400000 in
theorem awake_any (w : World) : Calls Try.prog 9 #[] w fun e w' => e = .returned (.bool true) ∧ Below w.heap.size w w' := by
  go_enter Try.func9, Try.ntmps9
  go_wp2_with fail
  refine (new_any w).mono ?_
  rintro e w1 ⟨A, n, cp, rfl, hn, hc, hbs, hB⟩
  obtain ⟨g, hg⟩ : ∃ g, w1.heap.size = g := ⟨_, rfl⟩
  have hgw : w.heap.size ≤ g := by rw [← hg]; exact hB.size
  have hbs : HasBsX w1 (fun b => b ≠ g) A newH.bs := hbs.lt.mono (fun b h => by have := h.2; omega)
  have hv := VarH.new hn hc hbs
  have hB2 := hB.alloc hB.size (.cells #[.int .i64 (newH.lv : Nat), .int .i64 (newH.nx : Nat), .slice A n cp] 27)
  obtain ⟨h0, hh0⟩ : ∃ h0, newH = h0 := ⟨_, rfl⟩
  have HH0 := Lib.hid (show h0 = aw 0 from hh0.symm)
  rw [hh0] at hv hB2
  rw [hg] at hv
  clear hn hc hbs hB
  go_wp2
  clear hh0 hg
  generalize w1.alloc (.cells #[.int .i64 (h0.lv : Nat), .int .i64 (h0.nx : Nat), .slice A n cp] 27) = w2 at hv hB2 ⊢
  have HGW := Lib.hid hgw
  clear hgw
  go_loopw [2] (fun i wr => ∃ (q : Nat) (h : H) (A : Option Addr) (n cp : Nat), q ≤ 5 ∧ i = .int .i64 q ∧ Hid (h = aw q) ∧ VarH wr g (fun b => b ≠ g) h A n cp ∧ Below w.heap.size w wr) (fun i _ => 5 - (intOf i).toNat)
  case atStart => exact ⟨0, h0, A, n, cp, by omega, rfl, HH0, hv, hB2⟩
  case round =>
    clear hv hB2 HH0
    obtain ⟨q, h, Aq, m, c, hq, rfl, hH, hv, hB⟩ := hrel
    by_cases hlt : q < 5
    · have hz1 : IntKind.i64.wrap (97 + (q : Int)) = 97 + (q : Int) := IntWalk.i64_in _ (by omega)
      have hz2 : IntKind.i32.wrap (97 + (q : Int)) = 97 + (q : Int) := by rw [IntKind.wrap_i32]; omega
      have he := ck_enc q hlt
      have hid : Idx spread h q := by rw [hH.out]; exact aw_idx q (by omega)
      have hcall := fun W (hW : HasBsX W (fun b => b ≠ g) Aq h.bs) => put_any (w := W) (fun b => b ≠ g) hid (by omega) hW hv.hn hv.hc (ck q) 0 q (ce_fine hlt)
      obtain ⟨h', hh'⟩ : ∃ h', putH spread h ⟨ck q, 0, (q : Int)⟩ = h' := ⟨_, rfl⟩
      rw [hh'] at hcall
      have HH' : Hid (h' = aw (q + 1)) := Lib.hid (by rw [← hh', hH.out]; rfl)
      have i1 : (q : Int) < 5 := by omega
      have c0 := hv.b.c0
      have c1 := hv.b.c1
      have c2 := hv.b.c2
      clear hh' hid
      go_wp2_with fail
      refine (hcall _ hv.hb).mono ?_
      rintro e w3 ⟨A', n', cp', rfl, hn', hc', hb', hB'⟩
      have hx := hv.b.below hB' hv.b.lt
      have hgl := hv.b.lt
      have hb' : HasBsX w3 (fun b => b ≠ g) A' h'.bs := hash_x hb' (fun b h => by omega)
      have hv' := VarH.store hx hn' hc' hb' (fun h => h rfl)
      have hB3 := store3_below (hB.trans (hB'.mono hB.size)) HGW.out (.int .i64 (h'.lv : Nat)) (.int .i64 (h'.nx : Nat)) (.slice A' n' cp')
      have HV := Lib.hid (And.intro hv' hB3)
      clear c0 c1 c2 hcall hv hB hv' hB3 hB' hb' hn' hc' he hgl
      have c0 := hx.c0
      have c1 := hx.c1
      have c2 := hx.c2
      have cf := hx.f
      clear hx
      go_wp2
      go_roundw
      case rel => exact ⟨q + 1, h', A', n', cp', by omega, by go_num, HH', HV.out.1, HV.out.2⟩
      case measure => simp [intOf]; omega
    · obtain rfl : q = 5 := by omega
      have hid : Idx spread h 5 := by rw [hH.out]; exact aw_idx 5 (by omega)
      obtain ⟨hlv, hnx⟩ : h.lv = 1 ∧ h.nx = 0 := by rw [hH.out]; exact aw_lv
      have hlen : h.bs.length = 2 := by rw [hH.out, (aw_count 5 (by omega)).2, if_neg (by omega)]
      have hcnt : countH h = 5 := by rw [hH.out]; exact (aw_count 5 (by omega)).1
      have hget : getH spread h (⟨#[99]⟩ : ByteArray).data.toList = some (ce 2) := by rw [hH.out]; exact aw_get
      have hdc : countH (dropH spread h (⟨#[99]⟩ : ByteArray).data.toList) = 4 := by rw [hH.out]; exact aw_drop
      have hdg : getH spread (dropH spread h (⟨#[99]⟩ : ByteArray).data.toList) (⟨#[99]⟩ : ByteArray).data.toList = none := by rw [hH.out]; exact aw_gone
      have hdi := hid.drop (⟨#[99]⟩ : ByteArray).data.toList
      have HD := Lib.hid hid
      obtain rfl : 2 = m := by rw [← hv.hn]; exact hlen.symm
      have c0 := hv.b.c0
      have c1 := hv.b.c1
      have c2 := hv.b.c2
      clear hH hlt hq
      have hcg := fun W (hW : HasBsX W (fun b => b ≠ g) Aq h.bs) => get_any (w := W) HD.out (by omega) hW.bs hv.hn hv.hc (⟨#[99]⟩ : ByteArray) (by decide)
      rw [hget] at hcg
      have hcd := fun W (hW : HasBsX W (fun b => b ≠ g) Aq h.bs) => drop_any (w := W) (fun b => b ≠ g) HD.out (by omega) hW hv.hn hv.hc (⟨#[99]⟩ : ByteArray) (by decide)
      obtain ⟨d, hd⟩ : ∃ d, dropH spread h (⟨#[99]⟩ : ByteArray).data.toList = d := ⟨_, rfl⟩
      rw [hd] at hcd hdc hdg hdi
      have hcc := fun W (hW : HasBsX W (fun b => b ≠ g) Aq h.bs) => count_any (w := W) HD.out (by omega) hW.bs hv.hn hv.hc
      rw [hcnt] at hcc
      have hcr := fun W (hW : HasBsX W (fun b => b ≠ g) Aq h.bs) => may_set (w := W) HD.out (by omega) hW.bs hv.hn hv.hc
      have e1 : ((1 : Nat) : Int) = 1 := rfl
      have e0 : ((0 : Nat) : Int) = 0 := rfl
      rw [hlv, hnx, e1, e0] at hcg hcd hcc hcr
      rw [hlv, e1] at c0
      rw [hnx, e0] at c1
      have hld : d.bs.length ≤ 7 := by have := hdi.len; omega
      have HX := Lib.hid (And.intro hlen (And.intro hlv hnx))
      clear hget hd hcnt hid hlen e1 e0
      go_wp2_with fail
      refine (hcg _ hv.hb).mono ?_
      rintro e w3 ⟨he, hy⟩
      have he : e = .returned (.tuple #[.agg #[.int .i64 0, .int .i64 2], .bool true]) := he
      subst he
      have hv := hv.below hy
      have hB := hB.trans (hy.mono hB.size)
      clear hcg hy c0 c1 c2
      have c0 := hv.b.c0
      have c1 := hv.b.c1
      have c2 := hv.b.c2
      rw [HX.out.2.1] at c0
      rw [HX.out.2.2] at c1
      have c0 : w3.cell? ⟨g, 0, none⟩ = some (.int .i64 1) := c0
      have c1 : w3.cell? ⟨g, 1, none⟩ = some (.int .i64 0) := c1
      have hnew := (Below.refl w3.heap.size w3).alloc (Nat.le_refl _) (.cells #[.int .i64 0, .int .i64 2] 30)
      have hp := Box2.new w3 (.int .i64 0) (.int .i64 2) 30
      have hv := hv.below hnew
      have hB := hB.trans (hnew.mono hB.size)
      have c0 := cell_belowB hnew c0
      have c1 := cell_belowB hnew c1
      have c2 := cell_belowB hnew c2
      obtain ⟨gp, hgp⟩ : ∃ gp, w3.heap.size = gp := ⟨_, rfl⟩
      rw [hgp] at hp
      go_wp2_with fail
      generalize w3.alloc (.cells #[.int .i64 0, .int .i64 2] 30) = w4 at hp hv hB c0 c1 c2 ⊢
      clear hnew hgp
      refine (hcd _ hv.hb).mono ?_
      rintro e w5 ⟨Ad, nd, cd, rfl, hnd, hcpd, hbd, hy⟩
      have hv := hv.below hy
      have hp := hp.below hy hp.lt
      have hB := hB.trans (hy.mono hB.size)
      have c0 := cell_belowB hy c0
      have c1 := cell_belowB hy c1
      have c2 := cell_belowB hy c2
      have hbd : HasBsX w5 (fun _ => True) Ad d.bs := hbd.mono (fun _ _ => trivial)
      have hvd := VarH.new hnd hcpd hbd
      have hnew := (Below.refl w5.heap.size w5).alloc (Nat.le_refl _) (.cells #[.int .i64 (d.lv : Nat), .int .i64 (d.nx : Nat), .slice Ad nd cd] 27)
      have hv := hv.below hnew
      have hp := hp.below hnew hp.lt
      have hB := hB.trans (hnew.mono hB.size)
      have c0 := cell_belowB hnew c0
      have c1 := cell_belowB hnew c1
      have c2 := cell_belowB hnew c2
      obtain ⟨gd, hgd⟩ : ∃ gd, w5.heap.size = gd := ⟨_, rfl⟩
      rw [hgd] at hvd
      have x0 := hvd.b.c0
      have x1 := hvd.b.c1
      have x2 := hvd.b.c2
      clear hcd hy
      go_wp2_with fail
      generalize w5.alloc (.cells #[.int .i64 (d.lv : Nat), .int .i64 (d.nx : Nat), .slice Ad nd cd] 27) = w6 at hvd hv hp hB c0 c1 c2 x0 x1 x2 ⊢
      clear hnew hgd hbd
      have hcg2 := get_any hdi (by omega) hvd.hb.bs hvd.hn hvd.hc (⟨#[99]⟩ : ByteArray) (by decide)
      rw [hdg] at hcg2
      refine hcg2.mono ?_
      rintro e w7 ⟨he, hy⟩
      have he : e = .returned (.tuple #[.agg #[.int .i64 0, .int .i64 0], .bool false]) := he
      subst he
      have hv := hv.below hy
      have hvd := hvd.below hy
      have hp := hp.below hy hp.lt
      have hB := hB.trans (hy.mono hB.size)
      have c0 := cell_belowB hy c0
      have c1 := cell_belowB hy c1
      have c2 := cell_belowB hy c2
      have hnew := (Below.refl w7.heap.size w7).alloc (Nat.le_refl _) (.cells #[.int .i64 0, .int .i64 0] 30)
      have hv := hv.below hnew
      have hvd := hvd.below hnew
      have hp := hp.below hnew hp.lt
      have hB := hB.trans (hnew.mono hB.size)
      have c0 := cell_belowB hnew c0
      have c1 := cell_belowB hnew c1
      have c2 := cell_belowB hnew c2
      clear hcg2 hy x0 x1 x2
      go_wp2_with fail
      generalize w7.alloc (.cells #[.int .i64 0, .int .i64 0] 30) = w8 at hvd hv hp hB c0 c1 c2 ⊢
      clear hnew
      refine (hcc _ hv.hb).mono ?_
      rintro e w9 ⟨rfl, hy⟩
      have hv := hv.below hy
      have hvd := hvd.below hy
      have hp := hp.below hy hp.lt
      have hB := hB.trans (hy.mono hB.size)
      have c0 := cell_belowB hy c0
      have c1 := cell_belowB hy c1
      have c2 := cell_belowB hy c2
      clear hcc hy
      go_wp2_with fail
      refine (hcr _ hv.hb).mono ?_
      rintro e w10 ⟨rfl, hy⟩
      have hvd := hvd.below hy
      have hp := hp.below hy hp.lt
      have hB := hB.trans (hy.mono hB.size)
      clear hcr hy hv c0 c1 c2
      have p1 := hp.c1
      have x0 := hvd.b.c0
      have x1 := hvd.b.c1
      have x2 := hvd.b.c2
      have hcc2 := count_any hdi (by omega) hvd.hb.bs hvd.hn hvd.hc
      rw [hdc] at hcc2
      go_wp2_with fail
      refine hcc2.mono ?_
      rintro e w11 ⟨rfl, hy⟩
      have hB := hB.trans (hy.mono hB.size)
      clear hcc2 hy hvd hp p1 x0 x1 x2
      go_wp2_with fail
      refine (right_any (n := 0) (cp := 0) (A := none) 0 0 [] 0 (⟨[], rfl, fun h => absurd rfl h, by simp⟩) rfl (Nat.le_refl _) (by omega) (by simp) (by simp) (by omega) (by omega) (by omega) (by omega)).mono ?_
      rintro e w12 ⟨rb, rfl, hrb, hy⟩
      have hB := hB.trans (hy.mono hB.size)
      obtain rfl : rb = false := by
        cases rb
        · rfl
        · exact absurd (hrb.1 rfl) may_empty
      clear hrb hy
      go_wp2_with fail
      refine (where_any 0 0 (⟨#[120]⟩ : ByteArray) (by omega) (by decide) (by decide)).mono ?_
      rintro e w13 ⟨he, hy⟩
      have hat : atN 0 0 (spread (⟨#[120]⟩ : ByteArray).data.toList) = 0 := by
        have := atN_lt (lv := 0) (nx := 0) (spread (⟨#[120]⟩ : ByteArray).data.toList)
        simp at this
        exact this
      rw [hat] at he
      have he : e = .returned (.int .i64 0) := he
      subst he
      have hB := hB.trans (hy.mono hB.size)
      clear hy hat
      go_wp2_with fail
      refine (new_any w13).mono ?_
      rintro e w14 ⟨A2, n2, cp2, rfl, hn2, hc2, hb2, hy⟩
      have hB := hB.trans (hy.mono hB.size)
      have hch := halve_any (fun _ => True) (i := 0) (Idx.new) (by omega) (hb2.mono (fun _ _ => trivial)) hn2 hc2
      clear hy
      go_wp2_with fail
      refine hch.mono ?_
      rintro e w15 ⟨A3, n3, cp3, rfl, hn3, hc3, hb3, hy⟩
      rw [new_halved] at hn3
      obtain rfl : 2 = n3 := hn3
      have hB := hB.trans (hy.mono hB.size)
      have hfd := field_bs (.int .i64 ((halveH spread newH).lv : Nat)) (.int .i64 ((halveH spread newH).nx : Nat)) A3 2 cp3 w15
      clear hy hch hb2 hb3
      go_wp2
      go_ret
      exact ⟨rfl, hB⟩
end Go.Proofs.Ytocmkjccaajnnaa.Ha
