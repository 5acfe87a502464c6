/- BucketTells, walked. -/
import Derived.Test.YtmjlfhfadmndhaaBuL
namespace Go.Proofs.Ytmjlfhfadmndhaa.Bu
open Go.RowKit Pac Ls Lex

theorem parse_isB {s : ByteArray} : IsB ((parseB s).getD []) := by
  cases h : parseB s with
  | none => exact ⟨rises_nil, Nat.zero_le _, fun e he => by simp at he, fun e he => by simp at he, fun e he => by simp at he⟩
  | some L => exact (parse_exact h).1
theorem parse_len (s : ByteArray) : ((parseB s).getD []).length ≤ 512 := parse_isB.len
set_option maxRecDepth 20000 in
set_option maxHeartbeats 6400000 in
theorem tells_any (A : Option Addr) (cp : Nat) (l : List E) (s : ByteArray) (w : World) (hl : HasE w 0 A l) (hc : l.length ≤ cp) (hl9 : l.length ≤ 9223372036854775807) (hs9 : s.size ≤ 9223372036854775807) :
    Calls Try.prog 4 #[.slice A l.length cp, .string s] w fun e w' => e = .returned (.bool true) ∧ Below w.heap.size w w' := by
  obtain ⟨n, hn⟩ : ∃ n, l.length = n := ⟨_, rfl⟩
  rw [hn] at hc hl9 ⊢
  have hcs := small_any (cp := cp) 0 hl hn hl9
  have HL := Lib.hid (And.intro hl hn)
  clear hl hn
  go_enter Try.func4, Try.ntmps4
  go_wp2_with fail
  refine hcs.mono ?_
  rintro e w1 ⟨b, rfl, hb, h1⟩
  clear hcs
  have hl := HL.out.1.below h1 (Nat.le_refl _)
  cases b
  · clear hb
    go_wp2_with fail
    refine (awake_any w1).mono ?_
    rintro e w2 ⟨rfl, h2⟩
    go_wp2
    go_ret
    exact ⟨rfl, h1.trans (h2.mono h1.size)⟩
  · have hsm := hb.1 rfl
    have hn60 : n ≤ 60 := by have := hsm.len; rw [HL.out.2] at this; exact this
    clear hb hsm
    by_cases h3 : (3000 : Int) < (s.size : Int)
    · go_wp2_with fail
      refine (awake_any w1).mono ?_
      rintro e w2 ⟨rfl, h2⟩
      go_wp2
      go_ret
      exact ⟨rfl, h1.trans (h2.mono h1.size)⟩
    · go_wp2_with fail
      refine (right_any 0 hl HL.out.2 hc (by omega)).mono ?_
      rintro e w2 ⟨r, rfl, hr, h2⟩
      have hl := hl.below h2 (Nat.le_refl _)
      have hb := h1.trans (h2.mono h1.size)
      clear h1 h2
      go_wp2_with fail
      have hcp := parse_any (w := w2) s (by omega)
      have hcq := fun W : World => refParse_any (w := W) s (by omega)
      have hlen := parse_len s
      generalize parseB s = o at hcp hcq hlen
      refine hcp.mono ?_
      rintro e w3 ⟨A3, n3, c3, he, hn3, hc3, hp, h4⟩
      have HO := Lib.hid (And.intro he hn3)
      generalize hps : o.isSome = ps at he
      have HPS := Lib.hid hps
      subst he
      have hl := hl.below h4 (Nat.le_refl _)
      have hb := hb.trans (h4.mono hb.size)
      clear h4 hcp hps hn3
      go_wp2_with fail
      refine (hcq _).mono ?_
      rintro e w4 ⟨A4, n4, c4, he, hn4, hc4, hq, h5⟩
      rw [HPS.out] at he
      subst he
      have hl := hl.below h5 (Nat.le_refl _)
      have hp := hp.below h5 (Nat.le_refl _)
      have hb := hb.trans (h5.mono hb.size)
      have hn3 := HO.out.2
      obtain rfl : n3 = n4 := hn3.symm.trans hn4
      have HQ := Lib.hid hn4
      clear h5 hcq hn4 hn3 HO
      go_wp2_with fail
      refine (awake_any w4).mono ?_
      rintro e w5 ⟨rfl, h6⟩
      have hl := hl.below h6 (Nat.le_refl _)
      have hp := hp.below h6 (Nat.le_refl _)
      have hq := (hq.lower (Nat.zero_le _)).below h6 (Nat.le_refl _)
      have hb := hb.trans (h6.mono hb.size)
      clear h6
      go_wp2_with fail
      refine (refRight_any (cp := cp) 0 hl HL.out.2 (by omega)).mono ?_
      rintro e w6 ⟨r2, rfl, hr2, h7⟩
      obtain rfl : r = r2 := by cases r <;> cases r2 <;> simp_all
      have hl := hl.below h7 (Nat.le_refl _)
      have hp := hp.below h7 (Nat.le_refl _)
      have hq := hq.below h7 (Nat.le_refl _)
      have hb := hb.trans (h7.mono hb.size)
      have hcS := fun (W : World) (h1 : HasE W 0 A3 (o.getD [])) (h2 : HasE W 0 A4 (o.getD [])) => refSame_any A3 A4 c3 c4 (o.getD []) (o.getD []) 0 0 W h1 h2 (by omega) (by omega)
      rw [HQ.out] at hcS
      clear h7 hr2
      cases r
      · clear hr hl
        go_wp2_with fail
        refine (hcS _ hp hq).mono ?_
        rintro e w7 ⟨r, rfl, hr, h8⟩
        obtain rfl : r = true := hr.2 rfl
        have hb := hb.trans (h8.mono hb.size)
        clear h8 hr hp hq hcS
        cases ps
        · go_wp2
          go_ret
          exact ⟨rfl, hb⟩
        · go_wp2
          go_ret
          exact ⟨rfl, hb⟩
      · have hib := hr.1 rfl
        clear hr
        go_wp2_with fail
        refine (print_any 0 hl HL.out.2 hc hib).mono ?_
        rintro e w7 ⟨rfl, h8⟩
        have hl := hl.below h8 (Nat.le_refl _)
        have hp := hp.below h8 (Nat.le_refl _)
        have hq := hq.below h8 (Nat.le_refl _)
        have hb := hb.trans (h8.mono hb.size)
        clear h8
        go_wp2_with fail
        refine (refPrint_any (cp := cp) 0 hl HL.out.2 hib).mono ?_
        rintro e w8 ⟨rfl, h9⟩
        have hp := hp.below h9 (Nat.le_refl _)
        have hq := hq.below h9 (Nat.le_refl _)
        have hb := hb.trans (h9.mono hb.size)
        generalize printB l = pl
        have hpl : (pl.toList == pl.toList) = true := by simp
        clear h9 hl hib
        go_wp2_with fail
        refine (hcS _ hp hq).mono ?_
        rintro e w9 ⟨r, rfl, hr, h10⟩
        obtain rfl : r = true := hr.2 rfl
        have hb := hb.trans (h10.mono hb.size)
        clear h10 hr hp hq hcS
        cases ps
        · go_wp2
          go_ret
          exact ⟨rfl, hb⟩
        · go_wp2
          go_ret
          exact ⟨rfl, hb⟩
end Go.Proofs.Ytmjlfhfadmndhaa.Bu
