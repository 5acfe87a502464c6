/- Pages at hand: the program's six functions, in the form that the laws take. -/
import Derived.Test.YtjjedadhkdpceaaClW
namespace Go.Proofs.Ytjjedadhkdpceaa.Cl
open Go.RowKit Pac Lex

section
variable {A : Option Addr} {n cp m : Nat} {w : World} {c : C}
theorem find_any (no : Int) (hok : Ok m c) (hm : m ≤ 200) (hl : HasP w 0 A c.l) (hn : c.l.length = n) (hc : n ≤ cp) (h0 : -9223372036854775808 ≤ no) (h1 : no ≤ 9223372036854775807) :
    Calls Try.prog 11 #[.agg #[.slice A n cp, .int .i64 c.h], .int .i64 no] w fun e w' => e = .returned (.int .i64 (resI (findL c.l no))) ∧ Below w.heap.size w w' :=
  pfind_any c.h no 0 hl hn (by have := hok.len; omega)
theorem pins_any (hok : Ok m c) (hm : m ≤ 200) (hl : HasP w 0 A c.l) (hn : c.l.length = n) (hc : n ≤ cp) :
    Calls Try.prog 15 #[.agg #[.slice A n cp, .int .i64 c.h]] w fun e w' => e = .returned (.int .i64 (sumP c.l)) ∧ Below w.heap.size w w' :=
  ppins_any c.h 0 hl hn (by have := hok.len; omega) (fun p hp => ⟨(hok.fine p hp).p0, by have := (hok.fine p hp).p1; omega⟩)
theorem right_any (h : Int) (l : List P) (hl : HasP w 0 A l) (hn : l.length = n) (hc : n ≤ cp) (h9 : n ≤ 100) (hf : ∀ p ∈ l, -9223372036854775808 ≤ p.no ∧ p.no ≤ 9223372036854775807 ∧ -9223372036854775808 ≤ p.pins ∧ p.pins ≤ 9223372036854775807) (h0 : -9223372036854775808 ≤ h) (h1 : h ≤ 9223372036854775807) :
    Calls Try.prog 7 #[.agg #[.slice A n cp, .int .i64 h]] w (BoolPost (MayC h l) w) :=
  pright_any h hl hn (by omega)
theorem get_any (X : Nat → Prop) (no : Int) (hok : Ok m c) (hm : m ≤ 200) (hl : HasPX w X A cp c.l) (hn : c.l.length = n) (hc : n ≤ cp) (h0 : -9223372036854775808 ≤ no) (h1 : no ≤ 9223372036854775807) :
    Calls Try.prog 14 #[.agg #[.slice A n cp, .int .i64 c.h], .int .i64 no] w (GetPost X (getC c no) w) :=
  pget_any X c no hl hn hc (by have := hok.len; omega)
theorem pin_any (X : Nat → Prop) (no : Int) (more : Bool) (hok : Ok m c) (hm : m ≤ 200) (hl : HasPX w X A cp c.l) (hn : c.l.length = n) (hc : n ≤ cp) (h0 : -9223372036854775808 ≤ no) (h1 : no ≤ 9223372036854775807) :
    Calls Try.prog 13 #[.agg #[.slice A n cp, .int .i64 c.h], .int .i64 no, .bool more] w (PinPost X (pinC c no more) w) :=
  ppin_any X c no more (fun p hp => ⟨(hok.fine p hp).p0, by have := (hok.fine p hp).p1; omega⟩) hl hn hc (by have := hok.len; omega)
theorem put_any (X : Nat → Prop) (no : Int) (d : ByteArray) (hok : Ok m c) (hm : m ≤ 200) (hl : HasPX w X A cp c.l) (hn : c.l.length = n) (hc : n ≤ cp) (h0 : -9223372036854775808 ≤ no) (h1 : no ≤ 9223372036854775807) (hd : d.size ≤ 300) :
    Calls Try.prog 12 #[.agg #[.slice A n cp, .int .i64 c.h], .agg #[.int .i64 no, .string d]] w (ClkPost X (putC c no d) w) :=
  pput_any X c no d hok hl hn hc
end
end Go.Proofs.Ytjjedadhkdpceaa.Cl
