/- The document's examples of layer 8, walked. -/
import Derived.Test.YtifcepjflkgbmaaSpK
namespace Go.Proofs.Ytifcepjflkgbmaa.Sp
open Go.RowKit Pac Lex

section
variable {w : World} {a b c : List Int} {ca cb cc : Array Value}
theorem int_list {w : World} {B n : Nat} {a : List Int} {ca : Array Value} (h : w.heap[B]? = some (.cells ca 3 (0, 0))) (ha : ca.toList = Li.cellsL cellsI a) : HasI w B (some ⟨B, 0, none⟩) a := Li.list_of_block cellsI_len h ha
theorem lit1 (ha : ca.toList = Li.cellsL cellsI a) {na : Nat} (hna : a.length = na) :
    HasLL ((w.alloc (.cells ca 3)).alloc (.cells #[.slice (some ⟨w.heap.size, 0, none⟩) na na] 44)) w.heap.size (some ⟨w.heap.size + 1, 0, none⟩) [a] ∧ Below w.heap.size w ((w.alloc (.cells ca 3)).alloc (.cells #[.slice (some ⟨w.heap.size, 0, none⟩) na na] 44)) := by
  subst hna
  have h0 := (Below.refl w.heap.size w).alloc (Nat.le_refl _) (.cells ca 3)
  have h1 := h0.alloc h0.size (.cells #[.slice (some ⟨w.heap.size, 0, none⟩) a.length a.length] 44)
  have hs : (w.alloc (.cells ca 3)).heap.size = w.heap.size + 1 := by simp
  have q1 := (Below.refl (w.alloc (.cells ca 3)).heap.size (w.alloc (.cells ca 3))).alloc (Nat.le_refl _) (.cells #[.slice (some ⟨w.heap.size, 0, none⟩) a.length a.length] 44)
  have i0 := (int_list (n := 0) (heap_alloc_new w (.cells ca 3)) ha).below q1 (Nat.le_refl _)
  refine ⟨⟨[⟨some ⟨w.heap.size, 0, none⟩, a.length, a⟩], rfl, ?_, fun x hx => ?_⟩, h1⟩
  · have := Li.list_of_block (l := [(⟨some ⟨w.heap.size, 0, none⟩, a.length, a⟩ : G)]) cellsG_len (heap_alloc_new (w.alloc (.cells ca 3)) (.cells #[.slice (some ⟨w.heap.size, 0, none⟩) a.length a.length] 44)) rfl
    rw [hs] at this
    exact this.lower (by omega)
  · rw [List.mem_singleton] at hx
    subst hx
    exact ⟨i0, Nat.le_refl _⟩
theorem lit2 (ha : ca.toList = Li.cellsL cellsI a) (hb : cb.toList = Li.cellsL cellsI b) {na nb : Nat} (hna : a.length = na) (hnb : b.length = nb) :
    HasLL (((w.alloc (.cells ca 3)).alloc (.cells cb 3)).alloc (.cells #[.slice (some ⟨w.heap.size, 0, none⟩) na na, .slice (some ⟨w.heap.size + 1, 0, none⟩) nb nb] 44)) w.heap.size (some ⟨w.heap.size + 2, 0, none⟩) [a, b] ∧ Below w.heap.size w (((w.alloc (.cells ca 3)).alloc (.cells cb 3)).alloc (.cells #[.slice (some ⟨w.heap.size, 0, none⟩) na na, .slice (some ⟨w.heap.size + 1, 0, none⟩) nb nb] 44)) := by
  subst hna hnb
  have h0 := (Below.refl w.heap.size w).alloc (Nat.le_refl _) (.cells ca 3)
  have h1 := h0.alloc h0.size (.cells cb 3)
  have h2 := h1.alloc h1.size (.cells #[.slice (some ⟨w.heap.size, 0, none⟩) a.length a.length, .slice (some ⟨w.heap.size + 1, 0, none⟩) b.length b.length] 44)
  have s1 : (w.alloc (.cells ca 3)).heap.size = w.heap.size + 1 := by simp
  have s2 : ((w.alloc (.cells ca 3)).alloc (.cells cb 3)).heap.size = w.heap.size + 2 := by simp
  have q1 := (Below.refl (w.alloc (.cells ca 3)).heap.size (w.alloc (.cells ca 3))).alloc (Nat.le_refl _) (.cells cb 3)
  have q2 := (Below.refl ((w.alloc (.cells ca 3)).alloc (.cells cb 3)).heap.size ((w.alloc (.cells ca 3)).alloc (.cells cb 3))).alloc (Nat.le_refl _) (.cells #[.slice (some ⟨w.heap.size, 0, none⟩) a.length a.length, .slice (some ⟨w.heap.size + 1, 0, none⟩) b.length b.length] 44)
  have i0 := ((int_list (n := 0) (heap_alloc_new w (.cells ca 3)) ha).below q1 (Nat.le_refl _)).below q2 (Nat.le_refl _)
  have j1 := (int_list (n := 0) (heap_alloc_new (w.alloc (.cells ca 3)) (.cells cb 3)) hb).below q2 (Nat.le_refl _)
  rw [s1] at j1
  refine ⟨⟨[⟨some ⟨w.heap.size, 0, none⟩, a.length, a⟩, ⟨some ⟨w.heap.size + 1, 0, none⟩, b.length, b⟩], rfl, ?_, fun x hx => ?_⟩, h2⟩
  · have := Li.list_of_block (l := [(⟨some ⟨w.heap.size, 0, none⟩, a.length, a⟩ : G), ⟨some ⟨w.heap.size + 1, 0, none⟩, b.length, b⟩]) cellsG_len (heap_alloc_new ((w.alloc (.cells ca 3)).alloc (.cells cb 3)) (.cells #[.slice (some ⟨w.heap.size, 0, none⟩) a.length a.length, .slice (some ⟨w.heap.size + 1, 0, none⟩) b.length b.length] 44)) rfl
    rw [s2] at this
    exact this.lower (by omega)
  · rcases List.mem_cons.1 hx with rfl | hx
    · exact ⟨i0, Nat.le_refl _⟩
    · rw [List.mem_singleton] at hx
      subst hx
      exact ⟨j1.lower (by omega), Nat.le_refl _⟩
theorem lit3 (ha : ca.toList = Li.cellsL cellsI a) (hb : cb.toList = Li.cellsL cellsI b) (hc : cc.toList = Li.cellsL cellsI c) {na nb nc : Nat} (hna : a.length = na) (hnb : b.length = nb) (hnc : c.length = nc) :
    HasLL ((((w.alloc (.cells ca 3)).alloc (.cells cb 3)).alloc (.cells cc 3)).alloc (.cells #[.slice (some ⟨w.heap.size, 0, none⟩) na na, .slice (some ⟨w.heap.size + 1, 0, none⟩) nb nb, .slice (some ⟨w.heap.size + 2, 0, none⟩) nc nc] 44)) w.heap.size (some ⟨w.heap.size + 3, 0, none⟩) [a, b, c] ∧ Below w.heap.size w ((((w.alloc (.cells ca 3)).alloc (.cells cb 3)).alloc (.cells cc 3)).alloc (.cells #[.slice (some ⟨w.heap.size, 0, none⟩) na na, .slice (some ⟨w.heap.size + 1, 0, none⟩) nb nb, .slice (some ⟨w.heap.size + 2, 0, none⟩) nc nc] 44)) := by
  subst hna hnb hnc
  have h0 := (Below.refl w.heap.size w).alloc (Nat.le_refl _) (.cells ca 3)
  have h1 := h0.alloc h0.size (.cells cb 3)
  have h2 := h1.alloc h1.size (.cells cc 3)
  have h3 := h2.alloc h2.size (.cells #[.slice (some ⟨w.heap.size, 0, none⟩) a.length a.length, .slice (some ⟨w.heap.size + 1, 0, none⟩) b.length b.length, .slice (some ⟨w.heap.size + 2, 0, none⟩) c.length c.length] 44)
  have s1 : (w.alloc (.cells ca 3)).heap.size = w.heap.size + 1 := by simp
  have s2 : ((w.alloc (.cells ca 3)).alloc (.cells cb 3)).heap.size = w.heap.size + 2 := by simp
  have s3 : (((w.alloc (.cells ca 3)).alloc (.cells cb 3)).alloc (.cells cc 3)).heap.size = w.heap.size + 3 := by simp
  have q1 := (Below.refl (w.alloc (.cells ca 3)).heap.size (w.alloc (.cells ca 3))).alloc (Nat.le_refl _) (.cells cb 3)
  have q2 := (Below.refl ((w.alloc (.cells ca 3)).alloc (.cells cb 3)).heap.size ((w.alloc (.cells ca 3)).alloc (.cells cb 3))).alloc (Nat.le_refl _) (.cells cc 3)
  have q3 := (Below.refl (((w.alloc (.cells ca 3)).alloc (.cells cb 3)).alloc (.cells cc 3)).heap.size (((w.alloc (.cells ca 3)).alloc (.cells cb 3)).alloc (.cells cc 3))).alloc (Nat.le_refl _) (.cells #[.slice (some ⟨w.heap.size, 0, none⟩) a.length a.length, .slice (some ⟨w.heap.size + 1, 0, none⟩) b.length b.length, .slice (some ⟨w.heap.size + 2, 0, none⟩) c.length c.length] 44)
  have i0 := (((int_list (n := 0) (heap_alloc_new w (.cells ca 3)) ha).below q1 (Nat.le_refl _)).below q2 (Nat.le_refl _)).below q3 (Nat.le_refl _)
  have j1 := ((int_list (n := 0) (heap_alloc_new (w.alloc (.cells ca 3)) (.cells cb 3)) hb).below q2 (Nat.le_refl _)).below q3 (Nat.le_refl _)
  have k1 := (int_list (n := 0) (heap_alloc_new ((w.alloc (.cells ca 3)).alloc (.cells cb 3)) (.cells cc 3)) hc).below q3 (Nat.le_refl _)
  rw [s1] at j1
  rw [s2] at k1
  refine ⟨⟨[⟨some ⟨w.heap.size, 0, none⟩, a.length, a⟩, ⟨some ⟨w.heap.size + 1, 0, none⟩, b.length, b⟩, ⟨some ⟨w.heap.size + 2, 0, none⟩, c.length, c⟩], rfl, ?_, fun x hx => ?_⟩, h3⟩
  · have := Li.list_of_block (l := [(⟨some ⟨w.heap.size, 0, none⟩, a.length, a⟩ : G), ⟨some ⟨w.heap.size + 1, 0, none⟩, b.length, b⟩, ⟨some ⟨w.heap.size + 2, 0, none⟩, c.length, c⟩]) cellsG_len (heap_alloc_new (((w.alloc (.cells ca 3)).alloc (.cells cb 3)).alloc (.cells cc 3)) (.cells #[.slice (some ⟨w.heap.size, 0, none⟩) a.length a.length, .slice (some ⟨w.heap.size + 1, 0, none⟩) b.length b.length, .slice (some ⟨w.heap.size + 2, 0, none⟩) c.length c.length] 44)) rfl
    rw [s3] at this
    exact this.lower (by omega)
  · rcases List.mem_cons.1 hx with rfl | hx
    · exact ⟨i0, Nat.le_refl _⟩
    · rcases List.mem_cons.1 hx with rfl | hx
      · exact ⟨j1.lower (by omega), Nat.le_refl _⟩
      · rw [List.mem_singleton] at hx
        subst hx
        exact ⟨k1.lower (by omega), Nat.le_refl _⟩
end
theorem ex_split : IsSplit [[0, 2], [1]] 3 := ⟨by decide, by decide, by decide, by decide, by decide, by decide, by decide, by decide⟩
theorem ex_split4 : IsSplit [[0, 3], [1], [2]] 4 := ⟨by decide, by decide, by decide, by decide, by decide, by decide, by decide, by decide⟩
theorem ex_r1 : rightSp [[0, 2], [1]] 3 = true := (rightSp_nat (n := 3)).1 ex_split
theorem ex_r2 : rightSp [[0, 2], [1]] 4 = false := (rightSp_nat (n := 4)).2 (fun h => by have := h.len; simp at this)
theorem ex_r3 : rightSp [[1], [0, 2]] 3 = false := (rightSp_nat (n := 3)).2 (fun h => by have := h.hd; simp at this)
theorem ex_r4 : rightSp [[2, 0], [1]] 3 = false := (rightSp_nat (n := 3)).2 (fun h => by have := h.ris [2, 0] (by simp); simp at this)
theorem ex_one : oneI 2 = [[0, 1]] := by decide
theorem ex_one0 : oneI 0 = [] := by decide
theorem ex_each : eachI 2 = [[0], [1]] := by decide
theorem ex_join : joinI [[0, 3], [1], [2]] 2 0 = [[0, 2, 3], [1]] := by
  unfold joinI
  rw [if_neg (by decide)]
  show joinN _ 0 2 = _
  simp [joinN, outN, mrg]
theorem ex_f1 : atG 2 [[0, 2], [1]] = some (0, 1) := by decide
theorem ex_f2 : atG 3 [[0, 2], [1]] = none := by decide
theorem ex_read : readSp (printSp [[0, 2], [1]]) false 3 = ([[0, 2], [1]], ⟨#[]⟩, false) := by
  have h := split_back ex_split ⟨#[]⟩
  have e : (printSp [[0, 2], [1]] ++ ⟨#[]⟩ : ByteArray) = printSp [[0, 2], [1]] := bytesEq' (by rw [app_list]; exact List.append_nil _)
  rw [e] at h
  exact h
end Go.Proofs.Ytifcepjflkgbmaa.Sp
