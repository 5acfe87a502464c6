/- A value's bytes: the program's, walked. -/
import Derived.Test.YtnhejeppjhjnpaaVaE
import Derived.Test.YtnhejeppjhjnpaaVaB
namespace Go.Proofs.Ytnhejeppjhjnpaa.Va
open Go.RowKit Pac

set_option maxRecDepth 20000 in
set_option maxHeartbeats 800000 in
theorem print_any (a : V) (w : World) (ho : a.Ok) (hr : rightV a = true) : Calls Try.prog 13 #[a.v] w fun e w' => e = .returned (.string (printV a)) ∧ Below w.heap.size w w' := by
  obtain ⟨k, n, s⟩ := a
  obtain ⟨h0, h1, h2, h3⟩ := ho
  simp only at h0 h1 h2 h3
  have hri := fun W : World => right_any ⟨k, n, s⟩ W
  rw [hr] at hri
  have hb0 := (Below.refl w.heap.size w).alloc (Nat.le_refl _) (.cells #[.int .i64 k, .int .i64 n, .string s] 23)
  have hx0 := Box3.new w (.int .i64 k) (.int .i64 n) (.string s) 23
  have hs := right_size hr
  simp only at hs
  rcases right_kind hr with rfl | rfl | rfl | rfl
  · have hP : printV ⟨0, n, s⟩ = _ := printV_0 n s
    generalize printV ⟨0, n, s⟩ = r at hP ⊢
    show Calls Try.prog 13 #[.agg #[.int .i64 0, .int .i64 n, .string s]] w _
    have HP := Lib.hid hP
    clear hP
    go_enter Try.func13, Try.ntmps13
    go_wp2_with fail
    refine (hri _).mono ?_
    rintro e w1 ⟨rfl, hw1⟩
    have hx := hx0.below hw1 (by simp)
    have HB := Lib.hid ((hb0.trans (hw1.mono hb0.size)).alloc (hb0.trans (hw1.mono hb0.size)).size (.cells #[.int .u8 0] 5))
    have e2 : (convert 42 9 (.slice (some ⟨w1.heap.size, 0, none⟩) 1 1)).run Try.prog (w1.alloc (.cells #[.int .u8 0] 5)) = .ok (.string ⟨#[0]⟩) (w1.alloc (.cells #[.int .u8 0] 5)) := oneByte _ 0
    have c0 := hx.c0
    have d0 := (hx.alloc (.cells #[.int .u8 0] 5)).c0
    have d1 := (hx.alloc (.cells #[.int .u8 0] 5)).c1
    have d2 := (hx.alloc (.cells #[.int .u8 0] 5)).c2
    clear hri hx hx0 hw1 hb0
    go_wp2
    go_ret
    exact ⟨by rw [HP.out]; rfl, HB.out⟩
  · have hP : printV ⟨1, n, s⟩ = _ := printV_1 n s
    generalize printV ⟨1, n, s⟩ = r at hP ⊢
    have q1 := encB_size (zig n)
    have hc := fun W : World => num_any n W h2 h3
    generalize encB (zig n) = x at hP q1 hc
    show Calls Try.prog 13 #[.agg #[.int .i64 1, .int .i64 n, .string s]] w _
    have HP := Lib.hid hP
    clear hP
    go_enter Try.func13, Try.ntmps13
    go_wp2_with fail
    refine (hri _).mono ?_
    rintro e w1 ⟨rfl, hw1⟩
    have hx := hx0.below hw1 (by simp)
    have HB := Lib.hid ((hb0.trans (hw1.mono hb0.size)).alloc (hb0.trans (hw1.mono hb0.size)).size (.cells #[.int .u8 1] 5))
    have e2 : (convert 42 9 (.slice (some ⟨w1.heap.size, 0, none⟩) 1 1)).run Try.prog (w1.alloc (.cells #[.int .u8 1] 5)) = .ok (.string ⟨#[1]⟩) (w1.alloc (.cells #[.int .u8 1] 5)) := oneByte _ 1
    have c0 := hx.c0
    have d0 := (hx.alloc (.cells #[.int .u8 1] 5)).c0
    have d1 := (hx.alloc (.cells #[.int .u8 1] 5)).c1
    have d2 := (hx.alloc (.cells #[.int .u8 1] 5)).c2
    clear hri hx hx0 hw1 hb0
    go_wp2_with fail
    refine (hc _).mono ?_
    rintro e w2 ⟨rfl, hw2⟩
    have hB1 := HB.out.trans (hw2.mono HB.out.size)
    clear hc hw2
    go_wp2
    go_ret
    exact ⟨by rw [HP.out]; rfl, hB1⟩
  · have hP : printV ⟨2, n, s⟩ = _ := printV_2 n s
    generalize printV ⟨2, n, s⟩ = r at hP ⊢
    have q1 := encB_size (zig n)
    have hc := fun W : World => num_any n W h2 h3
    generalize encB (zig n) = x at hP q1 hc
    show Calls Try.prog 13 #[.agg #[.int .i64 2, .int .i64 n, .string s]] w _
    have HP := Lib.hid hP
    clear hP
    go_enter Try.func13, Try.ntmps13
    go_wp2_with fail
    refine (hri _).mono ?_
    rintro e w1 ⟨rfl, hw1⟩
    have hx := hx0.below hw1 (by simp)
    have HB := Lib.hid ((hb0.trans (hw1.mono hb0.size)).alloc (hb0.trans (hw1.mono hb0.size)).size (.cells #[.int .u8 2] 5))
    have e2 : (convert 42 9 (.slice (some ⟨w1.heap.size, 0, none⟩) 1 1)).run Try.prog (w1.alloc (.cells #[.int .u8 2] 5)) = .ok (.string ⟨#[2]⟩) (w1.alloc (.cells #[.int .u8 2] 5)) := oneByte _ 2
    have c0 := hx.c0
    have d0 := (hx.alloc (.cells #[.int .u8 2] 5)).c0
    have d1 := (hx.alloc (.cells #[.int .u8 2] 5)).c1
    have d2 := (hx.alloc (.cells #[.int .u8 2] 5)).c2
    clear hri hx hx0 hw1 hb0
    go_wp2_with fail
    refine (hc _).mono ?_
    rintro e w2 ⟨rfl, hw2⟩
    have hB1 := HB.out.trans (hw2.mono HB.out.size)
    clear hc hw2
    go_wp2
    go_ret
    exact ⟨by rw [HP.out]; rfl, hB1⟩
  · have hP : printV ⟨3, n, s⟩ = _ := printV_3 n s
    generalize printV ⟨3, n, s⟩ = r at hP ⊢
    have q1 := Va.txtB_size s
    have hc := fun W : World => text_any s W (by omega)
    generalize txtB s = x at hP q1 hc
    show Calls Try.prog 13 #[.agg #[.int .i64 3, .int .i64 n, .string s]] w _
    have HP := Lib.hid hP
    clear hP
    go_enter Try.func13, Try.ntmps13
    go_wp2_with fail
    refine (hri _).mono ?_
    rintro e w1 ⟨rfl, hw1⟩
    have hx := hx0.below hw1 (by simp)
    have HB := Lib.hid ((hb0.trans (hw1.mono hb0.size)).alloc (hb0.trans (hw1.mono hb0.size)).size (.cells #[.int .u8 3] 5))
    have e2 : (convert 42 9 (.slice (some ⟨w1.heap.size, 0, none⟩) 1 1)).run Try.prog (w1.alloc (.cells #[.int .u8 3] 5)) = .ok (.string ⟨#[3]⟩) (w1.alloc (.cells #[.int .u8 3] 5)) := oneByte _ 3
    have c0 := hx.c0
    have d0 := (hx.alloc (.cells #[.int .u8 3] 5)).c0
    have d1 := (hx.alloc (.cells #[.int .u8 3] 5)).c1
    have d2 := (hx.alloc (.cells #[.int .u8 3] 5)).c2
    clear hri hx hx0 hw1 hb0
    go_wp2_with fail
    refine (hc _).mono ?_
    rintro e w2 ⟨rfl, hw2⟩
    have hB1 := HB.out.trans (hw2.mono HB.out.size)
    clear hc hw2
    go_wp2
    go_ret
    exact ⟨by rw [HP.out]; rfl, hB1⟩
end Go.Proofs.Ytnhejeppjhjnpaa.Va
