/- A value's bytes, plainly; the document's, walked. -/
import Derived.Test.YtnhejeppjhjnpaaVaA
namespace Go.Proofs.Ytnhejeppjhjnpaa.Va
open Go.RowKit Pac

def printV (a : V) : ByteArray :=
  if a.k = 1 ∨ a.k = 2 then ⟨#[UInt8.ofNat a.k.toNat]⟩ ++ encB (zig a.n) else if a.k = 3 then ⟨#[3]⟩ ++ txtB a.s else ⟨#[UInt8.ofNat a.k.toNat]⟩
theorem printV_0 (n : Int) (s : ByteArray) : printV ⟨0, n, s⟩ = ⟨#[0]⟩ := rfl
theorem printV_1 (n : Int) (s : ByteArray) : printV ⟨1, n, s⟩ = ⟨#[1]⟩ ++ encB (zig n) := rfl
theorem printV_2 (n : Int) (s : ByteArray) : printV ⟨2, n, s⟩ = ⟨#[2]⟩ ++ encB (zig n) := rfl
theorem printV_3 (n : Int) (s : ByteArray) : printV ⟨3, n, s⟩ = ⟨#[3]⟩ ++ txtB s := rfl
theorem right_kind {k n : Int} {s : ByteArray} (h : rightV ⟨k, n, s⟩ = true) : k = 0 ∨ k = 1 ∨ k = 2 ∨ k = 3 := by
  unfold rightV at h
  by_cases q0 : k = 0
  · exact Or.inl q0
  · by_cases q1 : k = 1
    · exact Or.inr (Or.inl q1)
    · by_cases q2 : k = 2
      · exact Or.inr (Or.inr (Or.inl q2))
      · by_cases q3 : k = 3
        · exact Or.inr (Or.inr (Or.inr q3))
        · simp [q0, q1, q2, q3] at h
theorem toList_empty {s : ByteArray} (h : s.toList.isEmpty = true) : s = ⟨#[]⟩ := by
  rw [ByteArray.toList_eq] at h
  exact bytesEq (by simpa using h)
theorem right_size {a : V} (h : rightV a = true) : a.s.size ≤ 60 := by
  obtain ⟨k, n, s⟩ := a
  rcases right_kind h with rfl | rfl | rfl | rfl
  · unfold rightV at h
    simp only [if_true, Bool.and_eq_true] at h
    show s.size ≤ 60
    rw [toList_empty h.2]
    decide
  · have h : s.toList.isEmpty = true := by simpa [rightV] using h
    show s.size ≤ 60
    rw [toList_empty h]
    decide
  · have h : ((n == 0 || n == 1) && s.toList.isEmpty) = true := by simpa [rightV] using h
    rw [Bool.and_eq_true] at h
    show s.size ≤ 60
    rw [toList_empty h.2]
    decide
  · have h : (n == 0 && decide ((s.size : Int) ≤ 60)) = true := by simpa [rightV] using h
    rw [Bool.and_eq_true] at h
    have := of_decide_eq_true h.2
    show s.size ≤ 60
    omega
theorem txtB_size (s : ByteArray) : (txtB s).size ≤ s.size + 10 := by
  unfold txtB
  rw [ByteArray.size_append]
  have := (encB_size (zig s.size)).2
  omega
theorem printV_size (a : V) : 1 ≤ (printV a).size ∧ (printV a).size ≤ a.s.size + 11 := by
  have h1 := (encB_size (zig a.n)).2
  have h2 := txtB_size a.s
  unfold printV
  split
  · rw [ByteArray.size_append]
    have : (⟨#[UInt8.ofNat a.k.toNat]⟩ : ByteArray).size = 1 := rfl
    omega
  · split
    · rw [ByteArray.size_append]
      have : (⟨#[3]⟩ : ByteArray).size = 1 := rfl
      omega
    · have : (⟨#[UInt8.ofNat a.k.toNat]⟩ : ByteArray).size = 1 := rfl
      omega

set_option maxRecDepth 20000 in
set_option maxHeartbeats 800000 in
theorem refPrint_any (a : V) (w : World) (ho : a.Ok) (hr : rightV a = true) : Calls Try.prog 14 #[a.v] w fun e w' => e = .returned (.string (printV a)) ∧ Below w.heap.size w w' := by
  obtain ⟨k, n, s⟩ := a
  obtain ⟨h0, h1, h2, h3⟩ := ho
  simp only at h0 h1 h2 h3
  have hb0 := (Below.refl w.heap.size w).alloc (Nat.le_refl _) (.cells #[.int .i64 k, .int .i64 n, .string s] 23)
  have hs := right_size hr
  simp only at hs
  rcases right_kind hr with rfl | rfl | rfl | rfl
  · have hP : printV ⟨0, n, s⟩ = _ := printV_0 n s
    generalize printV ⟨0, n, s⟩ = r at hP ⊢
    show Calls Try.prog 14 #[.agg #[.int .i64 0, .int .i64 n, .string s]] w _
    have HB := Lib.hid (hb0.alloc hb0.size (.cells #[.int .u8 0] 5))
    have e2 : (convert 42 9 (.slice (some ⟨(w.alloc (.cells #[.int .i64 0, .int .i64 n, .string s] 23)).heap.size, 0, none⟩) 1 1)).run Try.prog ((w.alloc (.cells #[.int .i64 0, .int .i64 n, .string s] 23)).alloc (.cells #[.int .u8 0] 5)) = .ok (.string ⟨#[0]⟩) ((w.alloc (.cells #[.int .i64 0, .int .i64 n, .string s] 23)).alloc (.cells #[.int .u8 0] 5)) := oneByte _ 0
    rw [show (w.alloc (.cells #[.int .i64 0, .int .i64 n, .string s] 23)).heap.size = w.heap.size + 1 by simp] at e2
    clear hb0
    have HP := Lib.hid hP
    clear hP
    go_enter Try.func14, Try.ntmps14
    go_wp2
    go_ret
    exact ⟨by rw [HP.out]; rfl, HB.out⟩
  · have hP : printV ⟨1, n, s⟩ = _ := printV_1 n s
    generalize printV ⟨1, n, s⟩ = r at hP ⊢
    show Calls Try.prog 14 #[.agg #[.int .i64 1, .int .i64 n, .string s]] w _
    have HB := Lib.hid (hb0.alloc hb0.size (.cells #[.int .u8 1] 5))
    have e2 : (convert 42 9 (.slice (some ⟨(w.alloc (.cells #[.int .i64 1, .int .i64 n, .string s] 23)).heap.size, 0, none⟩) 1 1)).run Try.prog ((w.alloc (.cells #[.int .i64 1, .int .i64 n, .string s] 23)).alloc (.cells #[.int .u8 1] 5)) = .ok (.string ⟨#[1]⟩) ((w.alloc (.cells #[.int .i64 1, .int .i64 n, .string s] 23)).alloc (.cells #[.int .u8 1] 5)) := oneByte _ 1
    rw [show (w.alloc (.cells #[.int .i64 1, .int .i64 n, .string s] 23)).heap.size = w.heap.size + 1 by simp] at e2
    clear hb0
    have q1 := encB_size (zig n)
    have hc := fun W : World => refNum_any n W h2 h3
    generalize encB (zig n) = x at hP q1 hc
    have HP := Lib.hid hP
    clear hP
    go_enter Try.func14, Try.ntmps14
    go_wp2_with fail
    refine (hc _).mono ?_
    rintro e w1 ⟨rfl, hw1⟩
    have hB1 := HB.out.trans (hw1.mono HB.out.size)
    clear hc hw1
    go_wp2
    go_ret
    exact ⟨by rw [HP.out]; rfl, hB1⟩
  · have hP : printV ⟨2, n, s⟩ = _ := printV_2 n s
    generalize printV ⟨2, n, s⟩ = r at hP ⊢
    show Calls Try.prog 14 #[.agg #[.int .i64 2, .int .i64 n, .string s]] w _
    have HB := Lib.hid (hb0.alloc hb0.size (.cells #[.int .u8 2] 5))
    have e2 : (convert 42 9 (.slice (some ⟨(w.alloc (.cells #[.int .i64 2, .int .i64 n, .string s] 23)).heap.size, 0, none⟩) 1 1)).run Try.prog ((w.alloc (.cells #[.int .i64 2, .int .i64 n, .string s] 23)).alloc (.cells #[.int .u8 2] 5)) = .ok (.string ⟨#[2]⟩) ((w.alloc (.cells #[.int .i64 2, .int .i64 n, .string s] 23)).alloc (.cells #[.int .u8 2] 5)) := oneByte _ 2
    rw [show (w.alloc (.cells #[.int .i64 2, .int .i64 n, .string s] 23)).heap.size = w.heap.size + 1 by simp] at e2
    clear hb0
    have q1 := encB_size (zig n)
    have hc := fun W : World => refNum_any n W h2 h3
    generalize encB (zig n) = x at hP q1 hc
    have HP := Lib.hid hP
    clear hP
    go_enter Try.func14, Try.ntmps14
    go_wp2_with fail
    refine (hc _).mono ?_
    rintro e w1 ⟨rfl, hw1⟩
    have hB1 := HB.out.trans (hw1.mono HB.out.size)
    clear hc hw1
    go_wp2
    go_ret
    exact ⟨by rw [HP.out]; rfl, hB1⟩
  · have hP : printV ⟨3, n, s⟩ = _ := printV_3 n s
    generalize printV ⟨3, n, s⟩ = r at hP ⊢
    show Calls Try.prog 14 #[.agg #[.int .i64 3, .int .i64 n, .string s]] w _
    have HB := Lib.hid (hb0.alloc hb0.size (.cells #[.int .u8 3] 5))
    have e2 : (convert 42 9 (.slice (some ⟨(w.alloc (.cells #[.int .i64 3, .int .i64 n, .string s] 23)).heap.size, 0, none⟩) 1 1)).run Try.prog ((w.alloc (.cells #[.int .i64 3, .int .i64 n, .string s] 23)).alloc (.cells #[.int .u8 3] 5)) = .ok (.string ⟨#[3]⟩) ((w.alloc (.cells #[.int .i64 3, .int .i64 n, .string s] 23)).alloc (.cells #[.int .u8 3] 5)) := oneByte _ 3
    rw [show (w.alloc (.cells #[.int .i64 3, .int .i64 n, .string s] 23)).heap.size = w.heap.size + 1 by simp] at e2
    clear hb0
    have q1 := Va.txtB_size s
    have hc := fun W : World => refText_any s W (by omega)
    generalize txtB s = x at hP q1 hc
    have HP := Lib.hid hP
    clear hP
    go_enter Try.func14, Try.ntmps14
    go_wp2_with fail
    refine (hc _).mono ?_
    rintro e w1 ⟨rfl, hw1⟩
    have hB1 := HB.out.trans (hw1.mono HB.out.size)
    clear hc hw1
    go_wp2
    go_ret
    exact ⟨by rw [HP.out]; rfl, hB1⟩
end Go.Proofs.Ytnhejeppjhjnpaa.Va
