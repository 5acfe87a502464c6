/- Padding with noughts, repeating one string, and making a device. -/
import Derived.Test.YtnmgaafpbbeceaaB
import Derived.Laws.CopyOwn
import Derived.Laws.BytesArg
namespace Go.Proofs.Ytnmgaafpbbeceaa
open Go.RowKit Go.Shelf

/-- These bytes, and noughts up to 256. -/
def padB (d : ByteArray) : ByteArray := d ++ ⟨(List.replicate (256 - d.size) 0).toArray⟩
theorem padB_size (d : ByteArray) (h : d.size ≤ 256) : (padB d).size = 256 := by
  unfold padB
  rw [ByteArray.size_append]
  have : (ByteArray.mk (List.replicate (256 - d.size) (0 : UInt8)).toArray).size = 256 - d.size := by
    show (List.replicate (256 - d.size) (0 : UInt8)).toArray.size = _
    rw [List.size_toArray, List.length_replicate]
  rw [this]
  omega

theorem repeatL_one (c : Nat) : Lib.repeatL [0] c = List.replicate c 0 := by
  induction c with
  | zero => rfl
  | succ c ih => simp [Lib.repeatL, ih, List.replicate_succ]

theorem noughts_any (k : Int) (w : World) (h0 : 0 ≤ k) (h1 : k ≤ 1000000) :
    Calls Try.prog 28 #[.string ⟨#[0]⟩, .int .i64 k] w fun e w' => e = .returned (.string ⟨(List.replicate k.toNat 0).toArray⟩) ∧ Below w.heap.size w w' := by
  obtain ⟨n, rfl⟩ := Int.eq_ofNat_of_zero_le h0
  refine (Try.strings_Repeat ⟨#[0]⟩ n w (by omega) (by show 1 * n ≤ _; omega)).mono ?_
  rintro e w' ⟨rfl, hb⟩
  refine ⟨?_, hb⟩
  have e0 : (ByteArray.mk #[0]).data.toList = [0] := rfl
  rw [e0, repeatL_one, Int.toNat_natCast]

set_option maxHeartbeats 400000 in
theorem padded_any (d : ByteArray) (w : World) (h : d.size ≤ 256) :
    Calls Try.prog 25 #[.string d] w fun e w' => e = .returned (.string (padB d)) ∧ Below w.heap.size w w' := by
  have HF := Lib.hid (show padB d = d ++ ⟨(List.replicate ((256 : Int) - d.size).toNat 0).toArray⟩ by
    unfold padB
    have : ((256 : Int) - d.size).toNat = 256 - d.size := by omega
    rw [this])
  go_enter Try.func25, Try.ntmps25
  go_wp2_with (go_at_call 28; refine (noughts_any _ _ (by omega) (by omega)).mono ?_; rintro e w1 ⟨rfl, hb⟩; have hrs : (List.replicate ((256 : Int) - d.size).toNat (0 : UInt8)).toArray.size ≤ 256 := (by rw [List.size_toArray, List.length_replicate]; omega); generalize hr : (List.replicate ((256 : Int) - d.size).toNat (0 : UInt8)).toArray = r at HF hrs ⊢; clear hr)
  go_ret
  exact ⟨by rw [HF.out]; rfl, hb⟩

theorem info5 : (Try.prog.info? 5).map (fun i => (i.zero, i.size, i.bytes)) = some (some (.int .u8 0), 1, 1) := by kernel_rfl
theorem info9 : (Try.prog.info? 9).map (fun i => (i.zero, i.size, i.bytes)) = some (some (.string ⟨#[]⟩), 1, 16) := by kernel_rfl

theorem strOf_zeros (n : Nat) : strOfNums (List.replicate n 0) = ⟨(List.replicate n 0).toArray⟩ := by
  unfold strOfNums
  simp

set_option maxHeartbeats 400000 in
theorem full_any (d : ByteArray) (w : World) (h : d.size ≤ 256) :
    Calls Try.prog 16 #[.string d] w fun e w' => e = .returned (.string (padB d)) ∧ Below w.heap.size w w' := by
  obtain ⟨i0, hi, hz0, hz1, hz2⟩ := info_parts info5
  obtain ⟨n, hn⟩ : ∃ n, 256 - d.size = n := ⟨_, rfl⟩
  have hn' : (256 : Int) - d.size = n := by omega
  have HF := Lib.hid (show padB d = d ++ ⟨(List.replicate n 0).toArray⟩ by unfold padB; rw [hn])
  have HN := Lib.hid hn'
  have hnb : n ≤ 256 := by omega
  clear hn hn'
  have hcv : ∀ W : World, (∀ i, i < n → W.cell? ⟨w.heap.size, 0 + i, none⟩ = some (.int .u8 ((List.replicate n (0 : Int)).getD i 0))) → (convert 62 9 (.slice (some ⟨w.heap.size, 0, none⟩) n n)).run Try.prog W = .ok (.string ⟨(List.replicate n 0).toArray⟩) W := by
    intro W hW
    have := run_convert_bytes_arg (P := Try.prog) W 62 5 Try.underlying62 Try.underlying5 w.heap.size 0 n n (List.replicate n 0) (by simp) hW 9 Try.underlying9
    rw [strOf_zeros] at this
    exact this
  have HC := Lib.hid hcv
  clear hcv
  go_enter Try.func16, Try.ntmps16
  go_wp2_with
    (at_make
     go_must (refine wpList_make_full _ rfl _ _ 62 rfl (w.heap.size) 5 i0 _ 1 Try.underlying62 hi hz0 hz1 _ _ _ _ n rfl rfl HN.out HN.out (by rw [hz2]; omega) (by unfold maxLen; omega) (by simp) ?_)
     intro w1 hown hgrow
     have hcv := HC.out w1 (fun i hi => by
       rw [Nat.zero_add, hown.cellAt i (by omega)]
       show (madeCells #[Value.int IntKind.u8 0] (n * 1)).toList[i]? = _
       rw [toList_madeCells_one, Nat.mul_one]
       simp [hi])
     have hrs : (List.replicate n (0 : UInt8)).toArray.size ≤ 256 := (by rw [List.size_toArray, List.length_replicate]; omega)
     clear HC hown
     generalize hr : (List.replicate n (0 : UInt8)).toArray = r at HF hcv hrs
     clear hr)
  go_ret
  exact ⟨by rw [HF.out]; rfl, (Below.refl _ _).grown hgrow (Nat.le_refl _) (fun k hk => by cases hk)⟩

theorem mul_one_any (n : Int) (w : World) (h0 : 0 ≤ n) (h : n ≤ 1000000) :
    Calls Try.prog 29 #[.int .u64 1, .int .u64 n] w fun e w' => e = .returned (.tuple #[.int .u64 0, .int .u64 n]) ∧ w = w' := by
  obtain ⟨k, rfl⟩ := Int.eq_ofNat_of_zero_le h0
  refine (Try.bits_Mul 1 k (by omega) (by omega) w).mono ?_
  rintro e w' ⟨rfl, rfl⟩
  refine ⟨?_, rfl⟩
  have e1 : 1 * k / 18446744073709551616 = 0 := by omega
  have e2 : 1 * k % 18446744073709551616 = k := by omega
  rw [e1, e2]
  rfl

theorem row_of_own {w : World} {base g n : Nat} {e : TypeId} {xs : List Value} (h : w.ownsRow base e 1 (.slice (some ⟨g, 0, none⟩) n n) n xs) :
    ∃ cur : List Value, w.heap[g]? = some (.cells cur.toArray e (0, 0)) ∧ cur.length = n := by
  rcases h.2 with ⟨h0, _⟩ | ⟨g', cap, cur, hv, _, hg, _, _, hs, _⟩
  · cases h0
  · injection hv with h1 h2 h3
    injection h1 with h1
    injection h1 with h1
    subst h1
    subst h3
    exact ⟨cur.toList, by simpa using hg, by simpa using hs⟩

def RepPost (n : Nat) (s : ByteArray) (w : World) (e : Ending) (w' : World) : Prop :=
  ∃ g cap, e = .returned (.slice (some ⟨g, 0, none⟩) n cap) ∧ n ≤ cap ∧ g < w'.heap.size ∧ (∀ j, j < n → w'.cell? ⟨g, j, none⟩ = some (.string s)) ∧ w.heap.size ≤ g ∧ Below w.heap.size w w'

theorem cell_one {w : World} {b : Nat} {s : Value} (hc : w.cell? ⟨b, 0, none⟩ = some s) : ∀ (j : Nat) (v : Value), [s][j]? = some v → w.cell? ((⟨b, 0, none⟩ : Addr).add j) = some v := by
  intro j v hj
  match j, hj with
  | 0, hj => simp at hj; subst hj; rw [add_zero_off]; exact hc

set_option maxHeartbeats 1000000 in
theorem repeat_slice (b c n : Nat) (s : ByteArray) (w : World) (h1 : 1 ≤ n) (h2 : n ≤ 2000) (hb : b < w.heap.size) (hc : w.cell? ⟨b, 0, none⟩ = some (.string s)) :
    Calls Try.prog 26 #[.slice (some ⟨b, 0, none⟩) 1 c, .int .i64 n] w (RepPost n s w) := by
  obtain ⟨i0, hi, hz0, hz1, hz2⟩ := info_parts info9
  have HC := Lib.hid hc
  clear hc
  have hd1 : decide ((n : Int) < 0) = false := by simp
  have hd2 : decide (9223372036854775807 < (n : Int)) = false := by simp; omega
  go_enter Try.func26, Try.ntmps26
  go_wp2_with (first
    | (go_at_call 29; refine (mul_one_any _ _ (by omega) (by omega)).mono ?_; rintro e w' ⟨rfl, rfl⟩)
    | (at_make
       go_must (refine wpList_make_full _ rfl _ _ 28 rfl (w.heap.size) 9 i0 _ 1 Try.underlying28 hi hz0 hz1 _ _ _ _ n rfl rfl (by omega) (by omega) (by rw [hz2]; omega) (by unfold maxLen; omega) (by simp) ?_)
       intro w1 hown hgrow
       obtain ⟨cur, hcur, hlen⟩ := row_of_own hown
       have hb1 : Below w.heap.size w w1 := (Below.refl _ _).grown hgrow (Nat.le_refl _) (fun k hk => by cases hk)
       have HC1 : Hid (w1.cell? ⟨b, 0, none⟩ = some (.string s)) := (hb1.cell (p := ⟨b, 0, none⟩) hb).trans HC.out
       have HCur := Lib.hid hcur
       have HLen := Lib.hid hlen
       clear hcur hlen hown hgrow)
    | (refine wpList_copy_splice rfl (.tmp 31) (.tmp 32) 28 28 rfl 9 Try.underlying28 (by rw [hi]; exact congrArg some hz1) (some ⟨w.heap.size, 0, none⟩) (some ⟨b, 0, none⟩) n n 1 c rfl rfl w.heap.size 0 cur 9 HCur.out [.string s] (by simp [Nat.min_def]; omega) (fun _ => ⟨rfl, ⟨b, 0, none⟩, rfl, cell_one HC1.out⟩) (by simp [HLen.out]; omega) (by simp [Value.oneCell']) w.heap.size w hb1 (Nat.le_refl _) ?_
       intro w2 hg2 hb2))
  have hL2 : (splice cur 0 [Value.string s]).length = n := by rw [length_splice _ _ _ (by simp [HLen.out]; omega)]; exact HLen.out
  have hF2 : ∀ j, j < 1 → (splice cur 0 [Value.string s])[j]? = some (.string s) := by
    intro j hj
    obtain rfl : j = 0 := by omega
    simp [splice]
  have HL2 := Lib.hid hL2
  have HF2 := Lib.hid hF2
  generalize splice cur 0 [Value.string s] = cur2 at hg2 HL2 HF2
  have hs1 : w.heap.size < w2.heap.size := by
    have := Array.getElem?_eq_some_iff.1 hg2.out
    exact this.1
  clear hL2 hF2 HCur HLen HC1 hb1
  go_loopw [8] (fun v wr => ∃ k : Nat, 1 ≤ k ∧ k ≤ n ∧ v = .int .i64 k ∧ Below w.heap.size w wr ∧ w.heap.size < wr.heap.size ∧ ∃ cur : List Value, Hid (wr.heap[w.heap.size]? = some (.cells cur.toArray 9 (0, 0))) ∧ Hid (cur.length = n) ∧ Hid (∀ j, j < k → cur[j]? = some (.string s))) (fun v _ => n - (intOf v).toNat)
  case atStart => exact ⟨1, Nat.le_refl _, h1, rfl, hb2, hs1, cur2, hg2, HL2, HF2⟩
  case round =>
    obtain ⟨k, hk1, hk2, rfl, hbr, hsr, cur3, hg3, HL3, HF3⟩ := hrel
    by_cases hlt : k < n
    · have i1 : (k : Int) < n := by omega
      have i2 : (0 : Int) ≤ k := by omega
      have i3 : (k : Int) ≤ n := by omega
      have i4 : ¬ n = k := by omega
      go_wp2
      have hmm : (List.replicate (min k (n - k)) (Value.string s)).length = min k (n - k) := List.length_replicate
      have HM := Lib.hid hmm
      have HSrc : Hid (∀ (W : World), W.heap[w.heap.size]? = some (.cells cur3.toArray 9 (0, 0)) → ∀ (j : Nat) (v : Value), (List.replicate (min k (n - k)) (Value.string s))[j]? = some v → W.cell? ((⟨w.heap.size, 0, none⟩ : Addr).add j) = some v) := by
        intro W hW j v hj
        have hjl := (List.getElem?_eq_some_iff.1 hj).1
        rw [hmm] at hjl
        rw [List.getElem?_replicate, if_pos hjl] at hj
        injection hj with hj
        subst hj
        rw [add_zero_off, cell_of_row W _ j _ _ _ hW]
        simpa using HF3.out j (by omega)
      have HOne : Hid (∀ v ∈ List.replicate (min k (n - k)) (Value.string s), v.oneCell' = true) := by
        intro v hv
        rw [(List.mem_replicate.1 hv).2]
        rfl
      clear hmm
      generalize hcs : List.replicate (min k (n - k)) (Value.string s) = cs at HM HSrc HOne
      have HCS := Lib.hid hcs
      clear hcs
      have hl1 : cs.length + k ≤ n := by rw [HM.out]; omega
      have hl2 : 1 ≤ cs.length := by rw [HM.out]; omega
      have hwr : IntKind.i64.wrap ((k : Int) + (cs.length : Int)) = (k : Int) + (cs.length : Int) := IntWalk.i64_in _ (by omega)
      go_region_law ((refine step_copy_splice rfl (.tmp 41) (.tmp 44) 28 28 rfl 9 Try.underlying28 (by rw [hi]; exact congrArg some hz1) (some ⟨w.heap.size, k, none⟩) (some ⟨w.heap.size, 0, none⟩) (n - k) (n - k) k n (by simp [Act.eval, Act.put]) (by simp [Act.eval, Act.put]) w.heap.size k cur3 9 hg3.out cs (by rw [HM.out]; first | done | rfl | simp [Nat.min_def]) (fun _ => ⟨rfl, ⟨w.heap.size, 0, none⟩, rfl, HSrc.out _ hg3.out⟩) (by rw [HM.out, HL3.out]; omega) HOne.out w.heap.size w hbr.drew (Nat.le_refl _) ?_; intro w4 hg4 hb4))
      simp only [Act.put, List.getElem_toArray, List.getElem_cons_succ, List.getElem_cons_zero, List.setIfInBounds_toArray, List.set_cons_succ, List.set_cons_zero]
      go_roundw
      case rel =>
        refine ⟨_, _, _, _, _, _, _, _, _, _, _, _, _, _, ⟨k + cs.length, by omega, by omega, ?_, hb4, ?_, splice cur3 k cs, hg4, ?_, ?_⟩, rfl⟩
        · go_num
        · have := Array.getElem?_eq_some_iff.1 hg4.out
          exact this.1
        · show (splice cur3 k cs).length = n
          rw [length_splice _ _ _ (by rw [HL3.out]; omega)]
          exact HL3.out
        · intro j hj
          have h3 : cur3.length = n := HL3.out
          unfold splice
          by_cases hjk : j < k
          · rw [List.getElem?_append_left (by rw [List.length_take]; omega), List.getElem?_take_of_lt hjk]
            exact HF3.out j hjk
          · rw [List.getElem?_append_right (by rw [List.length_take]; omega), List.length_take, List.getElem?_append_left (by omega), ← HCS.out, List.getElem?_replicate, if_pos (by have := HM.out; omega)]
      case measure => simp [intOf]; omega
    · obtain rfl : k = n := by omega
      go_wp2
      go_ret
      refine ⟨w.heap.size, k, rfl, Nat.le_refl _, hsr, fun j hj => ?_, Nat.le_refl _, hbr⟩
      rw [cell_of_row wr w.heap.size j _ _ _ hg3.out]
      simpa using HF3.out j hj
end Go.Proofs.Ytnmgaafpbbeceaa
