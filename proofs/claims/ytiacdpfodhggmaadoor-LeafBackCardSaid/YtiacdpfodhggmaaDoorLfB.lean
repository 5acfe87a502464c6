/- A page's sector: the program's own functions at 762697a, walked. -/
import Derived.Test.YtiacdpfodhggmaaDoorLfA
import Derived.Test.YtiacdpfodhggmaaDoorTalE
namespace Go.Proofs.YtiacdpfodhggmaaDoor.Lf
open Go.RowKit Tal
section
variable {w : World}
theorem numbered_any (no : Int) (w : World) (h0 : 0 ≤ no) (h1 : no < 4294967296) :
    Calls Tryd.prog 20 #[.int .i64 no] w fun e w' => e = .returned (.bool true) ∧ w = w' := by
  go_enter Tryd.func20, Tryd.ntmps20
  have e1 : IntKind.u64.wrap no = no := by simp [IntKind.wrap, IntKind.bits, IntKind.signed]; omega
  have e2 : decide (no ≤ 4294967295) = true := by simp; omega
  go_wp2
  go_ret
  exact ⟨rfl, rfl⟩
theorem convP (x : Nat) (w : World) (hx : x < 4294967296) : (convert 26 9 (.slice (some ⟨w.heap.size, 0, none⟩) 4 4)).run Tryd.prog (w.alloc (.cells #[.int .u8 ((x : Int) / 16777216), .int .u8 ((x : Int) / 65536 % 256), .int .u8 ((x : Int) / 256 % 256), .int .u8 ((x : Int) % 256)] 5)) = .ok (.string (prt x)) (w.alloc (.cells #[.int .u8 ((x : Int) / 16777216), .int .u8 ((x : Int) / 65536 % 256), .int .u8 ((x : Int) / 256 % 256), .int .u8 ((x : Int) % 256)] 5)) := by
    have := run_convert_bytes_arg (P := Tryd.prog) (w.alloc (.cells #[.int .u8 ((x : Int) / 16777216), .int .u8 ((x : Int) / 65536 % 256), .int .u8 ((x : Int) / 256 % 256), .int .u8 ((x : Int) % 256)] 5)) 26 5 Tryd.underlying26 Tryd.underlying5 w.heap.size 0 4 4 [(x : Int) / 16777216, (x : Int) / 65536 % 256, (x : Int) / 256 % 256, (x : Int) % 256] rfl (by
      intro i hi
      match i, hi with
      | 0, _ => simp
      | 1, _ => simp
      | 2, _ => simp
      | 3, _ => simp) 9 Tryd.underlying9
    rw [this]
    congr 2
    exact prt_nums x
set_option maxHeartbeats 400000 in
theorem lprinted_any (x : Nat) (w : World) (hx : x < 4294967296) :
    Calls Tryd.prog 22 #[.int .i64 x] w fun e w' => e = .returned (.string (prt x)) ∧ Below w.heap.size w w' := by
  have hcv := convP x w hx
  go_enter Tryd.func22, Tryd.ntmps22
  go_wp2
  go_ret
  exact ⟨rfl, (Below.refl _ _).alloc (Nat.le_refl _) _⟩
set_option maxHeartbeats 400000 in
theorem print_any (no : Nat) (d : ByteArray) (w : World) (ht : Tab w) (hn : no < 512) (hds : d.size = 200) :
    Calls Tryd.prog 10 #[.agg #[.int .i64 no, .string d]] w fun e w' => e = .returned (.string (leafB no d)) ∧ Below w.heap.size w w' := by
  have HT := Lib.hid ht
  clear ht
  have hd2 : ((d.size : Int) == 200) = true := by simp; omega
  go_enter Tryd.func10, Tryd.ntmps10
  go_wp2_with fail
  have hb0 : Below w.heap.size w (w.alloc (Obj.cells #[Value.int IntKind.i64 no, Value.string d] 29)) := (Below.refl _ _).alloc (Nat.le_refl _) _
  have c0 : (w.alloc (Obj.cells #[Value.int IntKind.i64 no, Value.string d] 29)).cell? ⟨w.heap.size, 0, none⟩ = some (.int .i64 no) := by simp
  have c1 : (w.alloc (Obj.cells #[Value.int IntKind.i64 no, Value.string d] 29)).cell? ⟨w.heap.size, 1, none⟩ = some (.string d) := by simp
  obtain ⟨g, hg⟩ : ∃ g, w.heap.size = g := ⟨_, rfl⟩
  have HB0 := Lib.hid hb0
  generalize hw0 : w.alloc (Obj.cells #[Value.int IntKind.i64 no, Value.string d] 29) = w0 at HB0 c0 c1 ⊢
  rw [hg] at c0 c1 ⊢
  clear hb0 hg hw0
  refine (numbered_any no w0 (by omega) (by omega)).mono ?_
  rintro e w1 ⟨rfl, rfl⟩
  go_wp2_with fail
  have hbd := HB0.out.drew
  have HTD := Lib.hid (HT.out.below hbd)
  have hlt : g < w0.drew.heap.size := World.block_lt_of_cell? w0 ⟨g, 0, none⟩ c0
  have hp1 := lprinted_any no w0.drew (by omega)
  have hsz : (hd no ++ d).size = 208 := both_size hds
  have hc1 : w0.drew.cell? ⟨g, 0, none⟩ = some (.int .i64 no) := c0
  have hc2 : w0.drew.cell? ⟨g, 1, none⟩ = some (.string d) := c1
  have CD := Lib.hid (And.intro hc1 hc2)
  have HE : Hid ((⟨#[80, 65, 71, 69]⟩ : ByteArray) ++ prt no ++ d = hd no ++ d) := Lib.hid rfl
  clear hc1 hc2
  have z0 := hds
  have z1 : ((⟨#[80, 65, 71, 69]⟩ : ByteArray) ++ prt no).size = 8 := hd_size no
  have z2 : (prt no).size = 4 := prt_size no
  have z3 : (⟨#[80, 65, 71, 69]⟩ : ByteArray).size = 4 := rfl
  go_region_held3 (fun w' => w'.cell? ⟨g, 0, none⟩ = some (.int .i64 no) ∧ w'.cell? ⟨g, 1, none⟩ = some (.string d))
    (first | (with_reducible exact hk6) | (with_reducible exact hk5) | (with_reducible exact CD.out))
    (first
      | (go_at_call 22
         refine hp1.mono ?_
         rintro e w5 ⟨rfl, hb5⟩
         have hk5 := And.intro ((hb5.cell (p := ⟨g, 0, none⟩) hlt).trans CD.out.1) ((hb5.cell (p := ⟨g, 1, none⟩) hlt).trans CD.out.2))
      | (go_at_call 21
         rw [HE.out]
         refine (sealed_any (hd no ++ d) 256 _ (HTD.out.below hb5) (by decide) (by rw [hsz]; decide)).mono ?_
         rintro e w6 ⟨rfl, hb6⟩
         have hb56 := hb5.trans (hb6.mono hb5.size)
         have hk6 := And.intro ((hb56.cell (p := ⟨g, 0, none⟩) hlt).trans CD.out.1) ((hb56.cell (p := ⟨g, 1, none⟩) hlt).trans CD.out.2)))
  go_wp2
  go_ret
  exact ⟨rfl, hbd.trans (hb56.mono hbd.size)⟩
set_option maxHeartbeats 400000 in
theorem parse_any (s : ByteArray) (no : Nat) (w : World) (ht : Tab w) (hn : no < 512) (hs : s.size ≤ 300) :
    Calls Tryd.prog 11 #[.string s, .int .i64 no] w fun e w' => e = .returned (.tuple #[.string ((parseL s no).getD ⟨#[]⟩), .bool (parseL s no).isSome]) ∧ Below w.heap.size w w' := by
  have HT := Lib.hid ht
  clear ht
  by_cases h : s.size = 256
  · have h1 : ((s.size : Int) == 256) = true := by simp; omega
    have h2 : (s.extract 8 208).size = 200 := by rw [ByteArray.size_extract]; omega
    have i1 : (208 : Int) ≤ s.size := by omega
    have HP := Lib.hid (print_any no (s.extract 8 208) w HT.out hn h2)
    go_enter Tryd.func11, Tryd.ntmps11
    go_wp2_with fail
    refine HP.out.mono ?_
    rintro e w1 ⟨rfl, hb1⟩
    by_cases hq : s = leafB no (s.extract 8 208)
    · have e : parseL s no = some (s.extract 8 208) := by unfold parseL; rw [if_pos ⟨h, hq⟩]
      have e1 : ((leafB no (s.extract 8 208)).toList == s.toList) = true := by rw [← hq]; simp
      clear hq
      go_wp2
      refine bodyPost_ret (results_tmp2 rfl _ _ _) rfl ?_
      rw [e]
      exact ⟨rfl, hb1⟩
    · have e : parseL s no = none := by unfold parseL; rw [if_neg (fun hc => hq hc.2)]
      have e1 : ((leafB no (s.extract 8 208)).toList == s.toList) = false := by
        rw [beq_eq_false_iff_ne]
        intro hc
        rw [ByteArray.toList_eq, ByteArray.toList_eq] at hc
        exact hq (ByteArray.ext (Array.toList_inj.1 hc.symm))
      go_wp2
      refine bodyPost_ret (results_tmp2 rfl _ _ _) rfl ?_
      rw [e]
      exact ⟨rfl, hb1⟩
  · have h1 : ((s.size : Int) == 256) = false := beq_eq_false_iff_ne.2 (by omega)
    go_enter Tryd.func11, Tryd.ntmps11
    have e : parseL s no = none := by unfold parseL; rw [if_neg (fun hc => h hc.1)]
    go_wp2
    refine bodyPost_ret (results_tmp2 rfl _ _ _) rfl ?_
    rw [e]
    exact ⟨rfl, Below.refl _ _⟩
theorem blank_any (w : World) :
    Calls Tryd.prog 12 #[] w fun e w' => e = .returned (.string (zeros 200)) ∧ Below w.heap.size w w' := by
  go_enter Tryd.func12, Tryd.ntmps12
  go_wp2_with fail
  refine (noughts_any 200 _ (by decide) (by decide)).mono ?_
  rintro e w1 ⟨rfl, hb1⟩
  go_wp2
  go_ret
  exact ⟨rfl, hb1⟩
end
end Go.Proofs.YtiacdpfodhggmaaDoor.Lf
