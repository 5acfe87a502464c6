/- PackWrites: whatever the number and the text, walked. -/
import Derived.Test.YtkbmnheppjalgaaI
namespace Go.Proofs.Ytkbmnheppjalgaa
open Go.RowKit Pac

set_option maxRecDepth 20000 in
set_option maxHeartbeats 800000 in
theorem writes_any (n : Int) (s : ByteArray) (w : World) (h0 : -9223372036854775808 ≤ n) (h1 : n ≤ 9223372036854775807) :
    Calls Try.prog 3 #[.int .i64 n, .string s] w fun e w' => e = .returned (.bool true) ∧ Below w.heap.size w w' := by
  go_enter Try.func3, Try.ntmps3
  by_cases hs : 2000 < s.size
  · go_wp2_with fail
    refine (awake_any _).mono ?_
    rintro e w1 ⟨rfl, hB1⟩
    go_wp2
    go_ret
    exact ⟨rfl, hB1⟩
  · go_wp2_with fail
    refine (awake_any _).mono ?_
    rintro e w1 ⟨rfl, hB1⟩
    go_wp2_with fail
    refine (num_any n w1 h0 h1).mono ?_
    rintro e w2 ⟨rfl, hw2⟩
    have hB2 := hB1.trans (hw2.mono hB1.size)
    clear hB1 hw2
    go_wp2_with fail
    refine (refNum_any n w2 h0 h1).mono ?_
    rintro e w3 ⟨rfl, hw3⟩
    have hB3 := hB2.trans (hw3.mono hB2.size)
    clear hB2 hw3
    have e1 : ((encB (zig n)).toList == (encB (zig n)).toList) = true := beq_self_eq_true _
    go_wp2_with fail
    refine (text_any s w3 (by omega)).mono ?_
    rintro e w4 ⟨rfl, hw4⟩
    have hB4 := hB3.trans (hw4.mono hB3.size)
    clear hB3 hw4
    go_wp2_with fail
    refine (refText_any s w4 (by omega)).mono ?_
    rintro e w5 ⟨rfl, hw5⟩
    have hB5 := hB4.trans (hw5.mono hB4.size)
    clear hB4 hw5
    have e2 : ((txtB s).toList == (txtB s).toList) = true := beq_self_eq_true _
    go_wp2
    go_ret
    exact ⟨rfl, hB5⟩
end Go.Proofs.Ytkbmnheppjalgaa
