/- Texts SuR, SuG, one behind the other. -/
import Derived.Test.YtcgkbcgpnlogoaaGreatDoorSuC
import Derived.Test.YtcgkbcgpnlogoaaGreatDoorMgAK
import Derived.Test.YtcgkbcgpnlogoaaGreatDoorMgAC
/- Stores: the law StoreReads, walked. -/
namespace Go.Proofs.YtcgkbcgpnlogoaaGreatDoor.St
open Go.RowKit Go.Shelf Tal Sla Hd Fr Lf Lex
theorem HasA.range {w : World} {lo : Nat} {D : Option Addr} {l : List Ac} (h : HasA w lo D l) {q : Nat} {e : Ac} (hq : l[q]? = some e) :
  ∃ b o, D = some ⟨b, o, none⟩ ∧ ∀ W, Below w.heap.size w W → W.rangeAt b (o + q * 6) (cellsA e) := by
 obtain ⟨b, o, hA, _, hlt, hc⟩ := h (fun e => by rw [e] at hq; simp at hq)
 exact ⟨b, o, hA, fun W hb j v hj => (hb.cell (p := ⟨b, o + q * 6 + j, none⟩) hlt).trans (hc q e hq j v hj)⟩
theorem wr_small (x y : Int) (h0 : 0 ≤ y) (h1 : y ≤ 100000) (e : x = y) : wrap64 x = y := by
 subst e
 unfold wrap64
 omega
abbrev HasO (w : World) (lo : Nat) (D : Option Addr) (l : List Int) : Prop := Li.HasL (fun x : Int => [.int .u8 x]) 1 w lo D l
theorem HasO.at {w : World} {lo : Nat} {D : Option Addr} {l : List Int} (h : HasO w lo D l) {q : Nat} {e : Int} (hq : l[q]? = some e) :
  ∃ b o, D = some ⟨b, o, none⟩ ∧ b < w.heap.size ∧ w.cell? ⟨b, o + q, none⟩ = some (.int .u8 e) := by
 obtain ⟨b, o, hA, _, hlt, hc⟩ := h (fun e => by rw [e] at hq; simp at hq)
 have := hc q e hq 0 _ rfl
 exact ⟨b, o, hA, hlt, by simpa using this⟩
/-- A store that is read: what it has in common with the one that it was. -/
structure Alike (s x : S) (V su : Nat → ByteArray) (K : Nat) : Prop where
 ok : OkS x K
 c : ConL x V su
 h : x.h = s.h
 t : x.t = s.t
 di : x.di = s.di
theorem Alike.read {s x : S} {V su : Nat → ByteArray} {K : Nat} (a : Alike s x V su K) {no : Nat} (hno : no < s.h.p.toNat) : ∃ y, readR x no = (y, nowR s su no, 0) ∧ Alike s y V su (K + 1) := by
 obtain ⟨y, e, c2, e1, e2, e3, e4⟩ := read_conL a.ok a.c (no := no) (by rw [a.h]; exact hno)
 have hok := readR_ok a.ok no
 rw [e] at hok
 have hn : nowR x su no = nowR s su no := by unfold nowR; rw [a.di]
 rw [hn] at e
 exact ⟨y, e, ⟨hok, c2, e1.trans a.h, e2.trans a.t, e4.trans a.di⟩⟩
/-- A store behind q deeds. -/
structure Been (s : S) (p l : Int) (V su : Nat → ByteArray) (q : Nat) : Prop where
 ok : OkS s (2 + 400 * q)
 c : ConL s V su
 p : s.h.p = p
 l : s.h.l = l
 e : s.h.e ≤ 1 + q
theorem Been.more {s : S} {p l : Int} {V su : Nat → ByteArray} {q : Nat} (b : Been s p l V su q) : Been s p l V su (q + 1) := ⟨b.ok.more (by omega), b.c, b.p, b.l, by have := b.e; push_cast; omega⟩
theorem Been.next {s : S} {p l : Int} {V su : Nat → ByteArray} {q : Nat} {a : Ac} (b : Been s p l V su q) (hq : q ≤ 1000) (hp : p ≤ 100) (h0 : 0 ≤ a.k) (h4 : a.k ≤ 4) : ∃ s2 t2 er V2 su2, doR s a = (s2, t2, er) ∧ Been s2 p l V2 su2 (q + 1) ∧ Did s a s2 er := by
 obtain ⟨s2, t2, er, V2, su2, e, c2, d⟩ := do_conL (a := a) b.ok b.c (right_next b.ok (by have := b.e; omega)) h0 h4
 have hok := doR_ok (a := a) b.ok h0 h4
 rw [e] at hok
 have h1 := b.ok.lfr
 have h2 := b.ok.ldi
 have h3 := b.p
 refine ⟨s2, t2, er, V2, su2, e, ⟨hok.more (by omega), c2, d.p.trans b.p, d.l.trans b.l, ?_⟩, d⟩
 have h5 := b.e
 rcases d.e with h | h <;> rw [h] <;> push_cast <;> omega
theorem been_new {p l : Int} (hr : RightH ⟨p, l, 1⟩) : ∃ D V, formatR p l = (some ⟨D, ⟨p, l, 1⟩, 0, [], [], ⟨[], 0⟩⟩, 0) ∧ Been ⟨D, ⟨p, l, 1⟩, 0, [], [], ⟨[], 0⟩⟩ p l V (fun _ => zeros 200) 0 := by
 obtain ⟨D, V, e, hok, c⟩ := new_conL hr
 exact ⟨D, V, e, ⟨hok, c, rfl, rfl, Int.le_refl _⟩⟩
section
variable {w0 W W' : World} {vs : List Fv.V} {Φ : Fv.Fact} {v : Value} {D : Dev} {X : Nat → Prop} {s : S}
end
section
variable {D E : Option Addr} {n cp m cq : Nat} {l : List Ac} {ol : List Int} {w : World}
end
end Go.Proofs.YtcgkbcgpnlogoaaGreatDoor.St

/- A store at rest, and opened again, plainly; the same devices?, of two values that tell one device. -/
namespace Go.Proofs.YtcgkbcgpnlogoaaGreatDoor.St
open Go.RowKit Go.Shelf Tal Sla Hd Fr Lf
/-- A store at rest, opened q times. -/
structure Rest (s : S) (p l : Int) (V su : Nat → ByteArray) (q : Nat) : Prop where
 ok : OkS s (30000 + 2000 * q)
 c : ConL s V su
 p : s.h.p = p
 l : s.h.l = l
 e : s.h.e ≤ 1000 + q
 di : s.di = []
theorem Been.rest {s : S} {p l : Int} {V su : Nat → ByteArray} {q : Nat} (b : Been s p l V su q) (hq : q ≤ 60) : Rest (abortR s) p l V su 0 :=
 ⟨(abortR_ok b.ok).more (by omega), (abort_conL b.c).1, b.p, b.l, by have := b.e; show s.h.e ≤ _; omega, rfl⟩
/-- What Open answers of a store at rest. -/
structure Anew (s u : S) : Prop where
 e : u.h.e = s.h.e + 1
 t : u.t = 0
 fr : u.fr = []
 di : u.di = []
 c : u.c = ⟨[], 0⟩
theorem Rest.opened {s : S} {p l : Int} {V su : Nat → ByteArray} {q : Nat} (r : Rest s p l V su q) (hq : q ≤ 10) (f : Fat) : ∃ u V2, openR (s.d.started f) = (some u, u.d, 0) ∧ Rest u p l V2 su (q + 1) ∧ Anew s u := by
 obtain ⟨u, V2, e, c2, ok2, e1, e2, e3, e4, e5⟩ := open_conL r.ok r.c (right_next r.ok (by have := r.e; omega)) f
 have h1 : u.h.e = s.h.e + 1 := by rw [e1]; rfl
 exact ⟨u, V2, e, ⟨ok2.more (by omega), c2, by rw [e1]; exact r.p, by rw [e1]; exact r.l, by have := r.e; rw [h1]; push_cast; omega, e4⟩, h1, e2, e3, e4, e5⟩
/-- Read, of a store at rest: the page as it was committed last. -/
theorem Rest.now {s : S} {p l : Int} {V su : Nat → ByteArray} {q : Nat} (r : Rest s p l V su q) (no : Nat) : nowR s su no = su no := by
 unfold nowR
 rw [r.di]
 rfl
theorem sameDev_any {A B A' B' : Option Addr} {n c m k n' c' m' k' : Nat} {dd dd' : Bool} {lf ds lf' ds' : Int} {D : Dev} {w : World} (h : IsDev w (.agg #[.slice A n c, .slice B m k, .bool dd, .int .i64 lf, .int .i64 ds]) D) (h' : IsDev w (.agg #[.slice A' n' c', .slice B' m' k', .bool dd', .int .i64 lf', .int .i64 ds']) D) (hm : D.m = 0) (hn : D.n ≤ 2000) :
  Calls Tryz.prog 28 #[.agg #[.slice A n c, .slice B m k, .bool dd, .int .i64 lf, .int .i64 ds], .agg #[.slice A' n' c', .slice B' m' k', .bool dd', .int .i64 lf', .int .i64 ds']] w (fun e w' => e = .returned (.bool true) ∧ Below w.heap.size w w') := by
 obtain ⟨b1, D1, p1, r1, e, hb1, _, hx1, _, hz1⟩ := h
 simp only [Value.agg.injEq, Array.mk.injEq, List.cons.injEq, Value.slice.injEq, Value.bool.injEq, Value.int.injEq, true_and, and_true] at e
 obtain ⟨⟨rfl, rfl, rfl⟩, ⟨rfl, rfl, rfl⟩, rfl, rfl, rfl⟩ := e
 obtain ⟨b2, D2, p2, r2, e, hb2, _, hx2, _, hz2⟩ := h'
 simp only [Value.agg.injEq, Array.mk.injEq, List.cons.injEq, Value.slice.injEq, Value.bool.injEq, Value.int.injEq, true_and, and_true] at e
 obtain ⟨⟨rfl, rfl, rfl⟩, ⟨rfl, rfl, rfl⟩, rfl, rfl, rfl⟩ := e
 obtain ⟨rfl, rfl⟩ := hz1 hm
 obtain ⟨rfl, rfl⟩ := hz2 hm
 rw [hm]
 exact same_any b1 _ b2 _ D.n D.S D.dead D.left D.deeds w hn hb1 hb2 hx1 hx2
end Go.Proofs.YtcgkbcgpnlogoaaGreatDoor.St
