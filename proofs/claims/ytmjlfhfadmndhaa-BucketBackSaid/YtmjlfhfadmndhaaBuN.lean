/- BucketBack, walked. -/
import Derived.Test.YtmjlfhfadmndhaaBuM
namespace Go.Proofs.Ytmjlfhfadmndhaa.Bu
open Go.RowKit Pac Ls Lex

theorem printB_size {l : List E} (h : IsB l) : (printB l).size ≤ 41490 := by rw [← preB_full]; exact preB_size h _
theorem isB_len {l : List E} (h : IsB l) : l.length ≤ 9223372036854775807 := Nat.le_trans h.len (by decide)
set_option maxRecDepth 20000 in
set_option maxHeartbeats 6400000 in
theorem back_any (A : Option Addr) (cp : Nat) (l : List E) (s more : ByteArray) (w : World) (hl : HasE w 0 A l) (hc : l.length ≤ cp) (hl9 : l.length ≤ 9223372036854775807) (hs9 : s.size ≤ 9223372036854775807) (hm9 : more.size ≤ 9223372036854775807) :
    Calls Try.prog 6 #[.slice A l.length cp, .string s, .string more] w fun e w' => e = .returned (.bool true) ∧ Below w.heap.size w w' := by
  obtain ⟨n, hn⟩ : ∃ n, l.length = n := ⟨_, rfl⟩
  rw [hn] at hc hl9 ⊢
  have hcs := small_any (cp := cp) 0 hl hn hl9
  have HL := Lib.hid (And.intro hl hn)
  clear hl hn
  go_enter Try.func6, Try.ntmps6
  go_wp2_with fail
  refine hcs.mono ?_
  rintro e w1 ⟨b, rfl, hb0, hb⟩
  clear hcs
  have hl := HL.out.1.below hb (Nat.le_refl _)
  cases b
  · clear hb0 hl
    go_wp2_with fail
    refine (awake_any _).mono ?_
    rintro e wz ⟨rfl, hz⟩
    go_wp2
    go_ret
    exact ⟨rfl, hb.trans (hz.mono hb.size)⟩
  have hsm := hb0.1 rfl
  have hn60 : n ≤ 60 := by have := hsm.len; rw [HL.out.2] at this; exact this
  clear hb0 hsm
  by_cases h3 : (2000 : Int) < (s.size : Int)
  · clear hl
    go_wp2_with fail
    refine (awake_any _).mono ?_
    rintro e wz ⟨rfl, hz⟩
    go_wp2
    go_ret
    exact ⟨rfl, hb.trans (hz.mono hb.size)⟩
  by_cases h5 : (50 : Int) < (more.size : Int)
  · clear hl
    go_wp2_with fail
    refine (awake_any _).mono ?_
    rintro e wz ⟨rfl, hz⟩
    go_wp2
    go_ret
    exact ⟨rfl, hb.trans (hz.mono hb.size)⟩
  have hcp := fun W : World => parse_any (w := W) s (by omega)
  have hcq := fun (W : World) (x : ByteArray) (hx : x.size ≤ 1000000) => parse_any (w := W) x (by omega)
  go_wp2_with fail
  cases ho : parseB s with
  | none =>
    have hcp := hcp w1
    rw [ho] at hcp
    refine hcp.mono ?_
    rintro e w2 ⟨A3, n3, c3, he, hn3, hc3, hp, h2⟩
    obtain rfl : 0 = n3 := hn3
    have he : e = .returned (.tuple #[.slice A3 0 c3, .bool false]) := he
    subst he
    have hl := hl.below h2 (Nat.le_refl _)
    have hb := hb.trans (h2.mono hb.size)
    clear h2 hcp hp hc3 h3 ho
    go_wp2_with fail
    refine (right_any 0 hl HL.out.2 hc (by omega)).mono ?_
    rintro e w5 ⟨r, rfl, hr, h5'⟩
    have hl := hl.below h5' (Nat.le_refl _)
    have hb := hb.trans (h5'.mono hb.size)
    clear h5'
    cases r
    · clear hr hl
      go_wp2_with fail
      refine (awake_any _).mono ?_
      rintro e wz ⟨rfl, hz⟩
      go_wp2
      go_ret
      exact ⟨rfl, hb.trans (hz.mono hb.size)⟩
    have hib := hr.1 rfl
    clear hr
    go_wp2_with fail
    refine (print_any 0 hl HL.out.2 hc hib).mono ?_
    rintro e w6 ⟨rfl, h6⟩
    have hl := hl.below h6 (Nat.le_refl _)
    have hb := hb.trans (h6.mono hb.size)
    have hpz := printB_size hib
    have hx0 : parseB (printB l ++ ⟨#[]⟩) = some l := by rw [app_empty]; exact parse_print hib
    have hx1 := fun (h : more ≠ ⟨#[]⟩) => parse_more hib h
    have hin := isB_len hib
    clear h6 hib
    generalize printB l = pl at hpz hx0 hx1 ⊢
    by_cases hme : more = ⟨#[]⟩
    · subst hme
      clear hx1
      have z1 : pl.size + (⟨#[]⟩ : ByteArray).size ≤ 9223372036854775807 := by
        show pl.size + 0 ≤ _
        omega
      go_wp2_with fail
      have hcq := hcq w6 (pl ++ ⟨#[]⟩) (by rw [ByteArray.size_append]; show pl.size + 0 ≤ _; omega)
      rw [hx0] at hcq
      refine hcq.mono ?_
      rintro e w7 ⟨A7, n7, c7, he, hn7, hc7, hq, h7⟩
      have hq : HasE w7 0 A7 l := hq
      have hn7 : l.length = n7 := hn7
      obtain rfl : n = n7 := HL.out.2.symm.trans hn7
      have he : e = .returned (.tuple #[.slice A7 n c7, .bool true]) := he
      subst he
      have hl := hl.below h7 (Nat.le_refl _)
      have hb := hb.trans (h7.mono hb.size)
      clear h7 hcq hx0 z1 hn7
      go_wp2_with fail
      refine (awake_any _).mono ?_
      rintro e w8 ⟨rfl, h8⟩
      have hl := hl.below h8 (Nat.le_refl _)
      have hq := hq.below h8 (Nat.le_refl _)
      have hb := hb.trans (h8.mono hb.size)
      clear h8
      go_wp2_with fail
      have hcS := refSame_any A7 A c7 cp l l 0 0 w8 hq hl hin hin
      rw [HL.out.2] at hcS
      refine hcS.mono ?_
      rintro e w9 ⟨r, rfl, hr, h9⟩
      obtain rfl : r = true := hr.2 rfl
      have hb := hb.trans (h9.mono hb.size)
      clear h9 hr hl hq hcS
      go_wp2
      go_ret
      exact ⟨rfl, hb⟩
    · have z1 : pl.size + more.size ≤ 9223372036854775807 := by omega
      have y1 : (more.toList == (⟨#[]⟩ : ByteArray).toList) = false := by
        rw [beq_eq_false_iff_ne]
        intro h
        exact hme (bytesEq' (by rw [← ByteArray.toList_eq, ← ByteArray.toList_eq]; exact h))
      have y2 : (more.toList == []) = false := by
        have h := y1
        rw [show (⟨#[]⟩ : ByteArray).toList = [] from by rw [ByteArray.toList_eq]] at h
        exact h
      have hx1 := hx1 hme
      clear hx0 hme hl
      go_wp2_with fail
      have hcq := hcq w6 (pl ++ more) (by rw [ByteArray.size_append]; omega)
      rw [hx1] at hcq
      refine hcq.mono ?_
      rintro e w7 ⟨A7, n7, c7, he, hn7, hc7, _, h7⟩
      obtain rfl : 0 = n7 := hn7
      have he : e = .returned (.tuple #[.slice A7 0 c7, .bool false]) := he
      subst he
      have hb := hb.trans (h7.mono hb.size)
      clear h7 hcq hx1 z1
      go_wp2_with fail
      refine (awake_any _).mono ?_
      rintro e w8 ⟨rfl, h8⟩
      have hb := hb.trans (h8.mono hb.size)
      clear h8
      go_wp2
      go_ret
      exact ⟨rfl, hb⟩
  | some L =>
    obtain ⟨hiL, hsL⟩ := parse_exact ho
    have hcp := hcp w1
    rw [ho] at hcp
    refine hcp.mono ?_
    rintro e w2 ⟨A3, n3, c3, he, hn3, hc3, hp, h2⟩
    have hp : HasE w2 0 A3 L := hp
    have hn3 : L.length = n3 := hn3
    have hn512 : n3 ≤ 512 := by rw [← hn3]; exact hiL.len
    have he : e = .returned (.tuple #[.slice A3 n3 c3, .bool true]) := he
    subst he
    have hl := hl.below h2 (Nat.le_refl _)
    have hb := hb.trans (h2.mono hb.size)
    have HN := Lib.hid (And.intro hn3 hiL)
    have HS := Lib.hid hsL
    clear h2 hcp ho hn3 hiL hsL
    go_wp2_with fail
    refine (right_any 0 hp HN.out.1 hc3 (by omega)).mono ?_
    rintro e w3 ⟨r, rfl, hr, h3'⟩
    obtain rfl : r = true := hr.2 HN.out.2
    have hl := hl.below h3' (Nat.le_refl _)
    have hp := hp.below h3' (Nat.le_refl _)
    have hb := hb.trans (h3'.mono hb.size)
    clear h3' hr
    go_wp2_with fail
    refine (print_any 0 hp HN.out.1 hc3 HN.out.2).mono ?_
    rintro e w4 ⟨rfl, h4⟩
    rw [← HS.out]
    have hss : (s.toList == s.toList) = true := by simp
    have hl := hl.below h4 (Nat.le_refl _)
    have hb := hb.trans (h4.mono hb.size)
    clear h4 hp h3
    go_wp2_with fail
    refine (right_any 0 hl HL.out.2 hc (by omega)).mono ?_
    rintro e w5 ⟨r, rfl, hr, h5'⟩
    have hl := hl.below h5' (Nat.le_refl _)
    have hb := hb.trans (h5'.mono hb.size)
    clear h5'
    cases r
    · clear hr hl
      go_wp2_with fail
      refine (awake_any _).mono ?_
      rintro e wz ⟨rfl, hz⟩
      go_wp2
      go_ret
      exact ⟨rfl, hb.trans (hz.mono hb.size)⟩
    have hib := hr.1 rfl
    clear hr
    go_wp2_with fail
    refine (print_any 0 hl HL.out.2 hc hib).mono ?_
    rintro e w6 ⟨rfl, h6⟩
    have hl := hl.below h6 (Nat.le_refl _)
    have hb := hb.trans (h6.mono hb.size)
    have hpz := printB_size hib
    have hx0 : parseB (printB l ++ ⟨#[]⟩) = some l := by rw [app_empty]; exact parse_print hib
    have hx1 := fun (h : more ≠ ⟨#[]⟩) => parse_more hib h
    have hin := isB_len hib
    clear h6 hib
    generalize printB l = pl at hpz hx0 hx1 ⊢
    by_cases hme : more = ⟨#[]⟩
    · subst hme
      clear hx1
      have z1 : pl.size + (⟨#[]⟩ : ByteArray).size ≤ 9223372036854775807 := by
        show pl.size + 0 ≤ _
        omega
      go_wp2_with fail
      have hcq := hcq w6 (pl ++ ⟨#[]⟩) (by rw [ByteArray.size_append]; show pl.size + 0 ≤ _; omega)
      rw [hx0] at hcq
      refine hcq.mono ?_
      rintro e w7 ⟨A7, n7, c7, he, hn7, hc7, hq, h7⟩
      have hq : HasE w7 0 A7 l := hq
      have hn7 : l.length = n7 := hn7
      obtain rfl : n = n7 := HL.out.2.symm.trans hn7
      have he : e = .returned (.tuple #[.slice A7 n c7, .bool true]) := he
      subst he
      have hl := hl.below h7 (Nat.le_refl _)
      have hb := hb.trans (h7.mono hb.size)
      clear h7 hcq hx0 z1 hn7
      go_wp2_with fail
      refine (awake_any _).mono ?_
      rintro e w8 ⟨rfl, h8⟩
      have hl := hl.below h8 (Nat.le_refl _)
      have hq := hq.below h8 (Nat.le_refl _)
      have hb := hb.trans (h8.mono hb.size)
      clear h8
      go_wp2_with fail
      have hcS := refSame_any A7 A c7 cp l l 0 0 w8 hq hl hin hin
      rw [HL.out.2] at hcS
      refine hcS.mono ?_
      rintro e w9 ⟨r, rfl, hr, h9⟩
      obtain rfl : r = true := hr.2 rfl
      have hb := hb.trans (h9.mono hb.size)
      clear h9 hr hl hq hcS
      go_wp2
      go_ret
      exact ⟨rfl, hb⟩
    · have z1 : pl.size + more.size ≤ 9223372036854775807 := by omega
      have y1 : (more.toList == (⟨#[]⟩ : ByteArray).toList) = false := by
        rw [beq_eq_false_iff_ne]
        intro h
        exact hme (bytesEq' (by rw [← ByteArray.toList_eq, ← ByteArray.toList_eq]; exact h))
      have y2 : (more.toList == []) = false := by
        have h := y1
        rw [show (⟨#[]⟩ : ByteArray).toList = [] from by rw [ByteArray.toList_eq]] at h
        exact h
      have hx1 := hx1 hme
      clear hx0 hme hl
      go_wp2_with fail
      have hcq := hcq w6 (pl ++ more) (by rw [ByteArray.size_append]; omega)
      rw [hx1] at hcq
      refine hcq.mono ?_
      rintro e w7 ⟨A7, n7, c7, he, hn7, hc7, _, h7⟩
      obtain rfl : 0 = n7 := hn7
      have he : e = .returned (.tuple #[.slice A7 0 c7, .bool false]) := he
      subst he
      have hb := hb.trans (h7.mono hb.size)
      clear h7 hcq hx1 z1
      go_wp2_with fail
      refine (awake_any _).mono ?_
      rintro e w8 ⟨rfl, h8⟩
      have hb := hb.trans (h8.mono hb.size)
      clear h8
      go_wp2
      go_ret
      exact ⟨rfl, hb⟩
end Go.Proofs.Ytmjlfhfadmndhaa.Bu
