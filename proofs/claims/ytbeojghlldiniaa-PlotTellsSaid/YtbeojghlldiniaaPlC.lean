/- The document's examples, walked. -/
import Derived.Test.YtbeojghlldiniaaPlM
namespace Go.Proofs.Ytbeojghlldiniaa.Pl
open Go.RowKit
def zeros (n : Nat) : ByteArray := ⟨(List.replicate n 0).toArray⟩
theorem info_partsF {n : TypeId} {z : Option Value} {s b : Nat} (h : (Try.prog.info? n).map (fun i => (i.zero, i.size, i.bytes)) = some (z, s, b)) : ∃ i, Try.prog.info? n = some i ∧ i.zero = z ∧ i.size = s ∧ i.bytes = b := by
  cases hi : Try.prog.info? n with
  | none => rw [hi] at h; cases h
  | some i =>
    rw [hi] at h
    simp only [Option.map_some, Option.some.injEq, Prod.mk.injEq] at h
    exact ⟨i, rfl, h.1, h.2.1, h.2.2⟩
theorem infoU8F : (Try.prog.info? 5).map (fun i => (i.zero, i.size, i.bytes)) = some (some (.int .u8 0), 1, 1) := by kernel_rfl
theorem strOf_zerosF (n : Nat) : strOfNums (List.replicate n 0) = zeros n := by
  unfold strOfNums zeros
  congr 1
  rw [List.map_replicate]
  rfl
/-- Noughts in new memory, as a text. -/
theorem noughts_new {w w2 : World} (t : Nat) (hown : w2.ownsRow w.heap.size 5 1 (.slice (some ⟨w.heap.size, 0, none⟩) t t) t (madeCells (Value.int IntKind.u8 0).cells (t * 1)).toList) (hgrow : w.grownBy w2 none) :
    Below w.heap.size w w2 ∧ (convert 39 9 (.slice (some ⟨w.heap.size, 0, none⟩) t t)).run Try.prog w2 = .ok (.string (zeros t)) w2 := by
  refine ⟨(Below.refl _ _).grown hgrow (Nat.le_refl _) (fun k hk => by cases hk), ?_⟩
  have hcv := run_convert_bytes_arg (P := Try.prog) w2 39 5 Try.underlying39 Try.underlying5 w.heap.size 0 t t (List.replicate t 0) (by simp) (fun i hi => by
    rw [Nat.zero_add, hown.cellAt i (by omega)]
    show (madeCells #[Value.int IntKind.u8 0] (t * 1)).toList[i]? = _
    rw [toList_madeCells_one, Nat.mul_one]
    simp [hi]) 9 Try.underlying9
  rwa [strOf_zerosF] at hcv

def RL : List UInt8 := mk (mk (List.replicate 200 0) 0 true) 9 true
def R0 : ByteArray := ⟨RL.toArray⟩
def S0 : ByteArray := ⟨(setR RL 300).toArray⟩
def Q0 : ByteArray := ⟨(mk RL 9 false).toArray⟩
def R1 : ByteArray := ⟨(mk (List.replicate 200 0) 0 true).toArray⟩
set_option maxRecDepth 100000 in
theorem exs : pickL RL 16 3 = some [1, 2, 3] ∧ pickL RL 16 15 = none ∧ tk RL 9 = true ∧ tk RL 8 = false ∧ (freeL RL 16).length = 14 ∧ rootN (setR RL 300) = 300 ∧ rootN RL = 0 ∧ tk (setR RL 300) 9 = true ∧ tk (mk RL 9 false) 9 = false ∧ RL[1]? = some 2 := by decide +kernel
theorem mk_of (s : ByteArray) (l : List UInt8) (n : Int) (t : Bool) (hs : s.data.toList = l) (hn : 0 ≤ n) : mkB s n t = ⟨(mk l n.toNat t).toArray⟩ := by unfold mkB; rw [if_pos hn, hs]
set_option maxRecDepth 20000 in
set_option maxHeartbeats 1000000 in
theorem awake_any (w : World) : Calls Try.prog 7 #[] w fun e w' => e = .returned (.bool true) ∧ Below w.heap.size w w' := by
  obtain ⟨i0, hi, hz0, hz1, hz2⟩ := info_partsF infoU8F
  have hRl : R0.data.toList = RL := by unfold R0; simp
  have hSl : S0.data.toList = setR RL 300 := by unfold S0; simp
  have hQl : Q0.data.toList = mk RL 9 false := by unfold Q0; simp
  have l200 : RL.length = 200 := by unfold RL; rw [mk_len, mk_len, List.length_replicate]
  have hRs : R0.size = 200 := by have : R0.data.toList.length = 200 := by rw [hRl, l200]
                                 simpa using this
  have hSs : S0.size = 200 := by have : S0.data.toList.length = 200 := by rw [hSl, setR_len, l200]
                                 simpa using this
  have hQs : Q0.size = 200 := by have : Q0.data.toList.length = 200 := by rw [hQl, mk_len, l200]
                                 simpa using this
  have hR1s : R1.size = 200 := by have : R1.data.toList.length = 200 := by unfold R1; simp [mk_len]
                                  simpa using this
  have hzs : (zeros 200).size = 200 := by unfold zeros; show (List.replicate 200 (0 : UInt8)).toArray.size = 200; simp
  have hm1 := fun W => mark_any (s := zeros 200) (n := 0) true W (by omega) (by decide) (by decide)
  have hm2 := fun W => mark_any (s := R1) (n := 9) true W (by omega) (by decide) (by decide)
  have hm3 := fun W => mark_any (s := R0) (n := 9) false W (by omega) (by decide) (by decide)
  have hs0 := fun W => setRoot_any (s := R0) (n := 300) W (by omega) (by decide) (by decide)
  rw [mk_of (zeros 200) (List.replicate 200 0) 0 true (by unfold zeros; simp) (by decide), show (⟨(mk (List.replicate 200 0) (Int.toNat 0) true).toArray⟩ : ByteArray) = R1 from rfl] at hm1
  rw [mk_of R1 (mk (List.replicate 200 0) 0 true) 9 true (by unfold R1; simp) (by decide), show (⟨(mk (mk (List.replicate 200 0) 0 true) (Int.toNat 9) true).toArray⟩ : ByteArray) = R0 from rfl] at hm2
  rw [mk_of R0 RL 9 false hRl (by decide), show (⟨(mk RL (Int.toNat 9) false).toArray⟩ : ByteArray) = Q0 from rfl] at hm3
  rw [show setRB R0 300 = S0 by unfold setRB; rw [if_pos (by decide), hRl]; rfl] at hs0
  have hp1 := fun W => pick_any (s := R0) (n := 16) (m := 3) W (by omega) (by decide) (by decide) (by decide) (by decide)
  have hp2 := fun W => pick_any (s := R0) (n := 16) (m := 15) W (by omega) (by decide) (by decide) (by decide) (by decide)
  rw [hRl, show (16 : Int).toNat = 16 from rfl, show (3 : Int).toNat = 3 from rfl, exs.1] at hp1
  rw [hRl, show (16 : Int).toNat = 16 from rfl, show (15 : Int).toNat = 15 from rfl, exs.2.1] at hp2
  have ht1 := fun W => taken_any (s := R0) (n := 9) W (by omega) (by decide) (by decide)
  have ht2 := fun W => taken_any (s := R0) (n := 8) W (by omega) (by decide) (by decide)
  have ht3 := fun W => taken_any (s := R0) (n := -1) W (by omega) (by decide) (by decide)
  have ht4 := fun W => taken_any (s := S0) (n := 9) W (by omega) (by decide) (by decide)
  have ht5 := fun W => taken_any (s := Q0) (n := 9) W (by omega) (by decide) (by decide)
  rw [show tkI R0 9 = true by unfold tkI; rw [hRl]; exact exs.2.2.1] at ht1
  rw [show tkI R0 8 = false by unfold tkI; rw [hRl]; exact exs.2.2.2.1] at ht2
  rw [show tkI R0 (-1) = false by unfold tkI; rfl] at ht3
  rw [show tkI S0 9 = true by unfold tkI; rw [hSl]; exact exs.2.2.2.2.2.2.2.1] at ht4
  rw [show tkI Q0 9 = false by unfold tkI; rw [hQl]; exact exs.2.2.2.2.2.2.2.2.1] at ht5
  have hf := fun W => free_any (s := R0) (n := 16) W (by omega) (by decide) (by decide)
  rw [hRl, show (16 : Int).toNat = 16 from rfl, exs.2.2.2.2.1] at hf
  have hr1 := fun W => root_any (s := S0) W (by omega)
  have hr2 := fun W => root_any (s := R0) W (by omega)
  rw [hSl, exs.2.2.2.2.2.1] at hr1
  rw [hRl, exs.2.2.2.2.2.2.1] at hr2
  have hb : ∀ h : 1 < R0.size, R0[1]'h = 2 := fun h => by
    have h2 : R0.data[1]? = some 2 := by rw [← Array.getElem?_toList, hRl]; exact exs.2.2.2.2.2.2.2.2.2
    exact Option.some.inj ((Array.getElem?_eq_getElem h).symm.trans h2)
  clear hRl hSl hQl l200 hSs hQs hR1s hzs
  generalize R0 = r at *
  generalize S0 = s at *
  generalize Q0 = q at *
  generalize R1 = r1 at *
  have K1 := Lib.hid (And.intro hm1 (And.intro hm2 (And.intro hm3 hs0)))
  have K2 := Lib.hid (And.intro hp1 hp2)
  have K3 := Lib.hid (And.intro ht1 (And.intro ht2 (And.intro ht3 (And.intro ht4 ht5))))
  have K4 := Lib.hid (And.intro hf (And.intro hr1 hr2))
  have hlt : (1 : Nat) < r.size := by omega
  have hlt2 : (1 : Int) < (r.size : Int) := by omega
  have hb := hb hlt
  clear hm1 hm2 hm3 hs0 hp1 hp2 ht1 ht2 ht3 ht4 ht5 hf hr1 hr2
  go_enter Try.func7, Try.ntmps7
  go_wp2_with
    (at_make
     go_must (refine wpList_make_full _ rfl _ _ 39 rfl (w.heap.size) 5 i0 _ 1 Try.underlying39 hi hz0 hz1 _ _ _ _ 200 rfl rfl rfl rfl (by rw [hz2]; decide) (by unfold maxLen; decide) (by simp) ?_)
     intro w1 hown hgrow
     obtain ⟨hB, hcv⟩ := noughts_new 200 hown hgrow
     clear hown hgrow
     generalize zeros 200 = z at hcv K1)
  clear hcv
  refine (K1.out.1 w1).mono ?_
  rintro e y1 ⟨rfl, hb1⟩
  have hB := hB.trans (hb1.mono hB.size)
  clear hb1
  go_wp2_with fail
  refine (K1.out.2.1 y1).mono ?_
  rintro e y2 ⟨rfl, hb1⟩
  have hB := hB.trans (hb1.mono hB.size)
  clear hb1
  go_wp2_with fail
  refine (K2.out.1 y2).mono ?_
  rintro e y3 ⟨A, n, cp, rfl, hn, hcp, hN, hb1⟩
  obtain rfl : n = 3 := hn.symm
  obtain ⟨ab, ao, rfl, c0⟩ := HasN.at (q := 0) (a := 1) hN rfl
  obtain ⟨ab2, ao2, e2, c2⟩ := HasN.at (q := 2) (a := 3) hN rfl
  injection e2 with e2
  injection e2 with e2 e3
  subst e2 e3
  have hB := hB.trans (hb1.mono hB.size)
  clear hb1 hn hN hcp
  go_wp2_with fail
  refine (K2.out.2 y3).mono ?_
  rintro e y4 ⟨A9, n9, cp9, rfl, hn9, hcp9, hN9, hb1⟩
  have c0 := (hb1.cell (p := ⟨ab, ao + 0, none⟩) (World.block_lt_of_cell? _ _ c0)).trans c0
  have c2 := (hb1.cell (p := ⟨ab, ao + 2, none⟩) (World.block_lt_of_cell? _ _ c2)).trans c2
  have hB := hB.trans (hb1.mono hB.size)
  clear hb1 hN9 hcp9 hn9
  go_wp2_with fail
  refine (K1.out.2.2.2 y4).mono ?_
  rintro e y5 ⟨rfl, hb1⟩
  have c0 := (hb1.cell (p := ⟨ab, ao + 0, none⟩) (World.block_lt_of_cell? _ _ c0)).trans c0
  have c2 := (hb1.cell (p := ⟨ab, ao + 2, none⟩) (World.block_lt_of_cell? _ _ c2)).trans c2
  have hB := hB.trans (hb1.mono hB.size)
  clear hb1
  go_wp2_with fail
  refine (K3.out.1 y5).mono ?_
  rintro e y6 ⟨rfl, hb1⟩
  have c0 := (hb1.cell (p := ⟨ab, ao + 0, none⟩) (World.block_lt_of_cell? _ _ c0)).trans c0
  have c2 := (hb1.cell (p := ⟨ab, ao + 2, none⟩) (World.block_lt_of_cell? _ _ c2)).trans c2
  have hB := hB.trans (hb1.mono hB.size)
  clear hb1
  go_wp2_with fail
  refine (K3.out.2.1 y6).mono ?_
  rintro e y7 ⟨rfl, hb1⟩
  have c0 := (hb1.cell (p := ⟨ab, ao + 0, none⟩) (World.block_lt_of_cell? _ _ c0)).trans c0
  have c2 := (hb1.cell (p := ⟨ab, ao + 2, none⟩) (World.block_lt_of_cell? _ _ c2)).trans c2
  have hB := hB.trans (hb1.mono hB.size)
  clear hb1
  go_wp2_with fail
  refine (K3.out.2.2.1 y7).mono ?_
  rintro e y8 ⟨rfl, hb1⟩
  have c0 := (hb1.cell (p := ⟨ab, ao + 0, none⟩) (World.block_lt_of_cell? _ _ c0)).trans c0
  have c2 := (hb1.cell (p := ⟨ab, ao + 2, none⟩) (World.block_lt_of_cell? _ _ c2)).trans c2
  have hB := hB.trans (hb1.mono hB.size)
  clear hb1
  go_wp2_with fail
  refine (K4.out.1 y8).mono ?_
  rintro e y9 ⟨rfl, hb1⟩
  have c0 := (hb1.cell (p := ⟨ab, ao + 0, none⟩) (World.block_lt_of_cell? _ _ c0)).trans c0
  have c2 := (hb1.cell (p := ⟨ab, ao + 2, none⟩) (World.block_lt_of_cell? _ _ c2)).trans c2
  have hB := hB.trans (hb1.mono hB.size)
  clear hb1
  rw [Nat.add_zero] at c0
  go_wp2_with fail
  refine (K4.out.2.1 y9).mono ?_
  rintro e z1 ⟨rfl, hb1⟩
  have hB := hB.trans (hb1.mono hB.size)
  clear hb1
  clear c0 c2
  go_wp2_with fail
  refine (K4.out.2.2 z1).mono ?_
  rintro e z2 ⟨rfl, hb1⟩
  have hB := hB.trans (hb1.mono hB.size)
  clear hb1
  go_wp2_with fail
  refine (K3.out.2.2.2.1 z2).mono ?_
  rintro e z3 ⟨rfl, hb1⟩
  have hB := hB.trans (hb1.mono hB.size)
  clear hb1
  go_wp2_with fail
  refine (K1.out.2.2.1 z3).mono ?_
  rintro e z4 ⟨rfl, hb1⟩
  have hB := hB.trans (hb1.mono hB.size)
  clear hb1
  go_wp2_with fail
  refine (K3.out.2.2.2.2 z4).mono ?_
  rintro e z5 ⟨rfl, hb1⟩
  have hB := hB.trans (hb1.mono hB.size)
  clear hb1
  go_wp2_with fail
  go_ret
  exact ⟨rfl, hB⟩
end Go.Proofs.Ytbeojghlldiniaa.Pl
