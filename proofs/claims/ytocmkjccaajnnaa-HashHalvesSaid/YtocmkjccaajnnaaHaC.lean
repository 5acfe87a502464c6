/- An index in memory: how many entries: the document's, walked. -/
import Derived.Test.YtocmkjccaajnnaaHaB
namespace Go.Proofs.Ytocmkjccaajnnaa.Ha
open Go.RowKit Pac Bu Ls Go.Proofs.Ytocmkjccaajnnaa.Or

/-- The slice at A holds these buckets. -/
abbrev HasBs (w : World) (lo : Nat) (A : Option Addr) (bs : List (List E)) : Prop := Li.HasLs cellsE 3 w lo A bs
def total (bs : List (List E)) : Nat := (bs.map List.length).sum
theorem total_snoc (bs : List (List E)) (r : List E) : total (bs ++ [r]) = total bs + r.length := by unfold total; simp
theorem take_snocB {l : List (List E)} {q : Nat} {x : List E} (h : l[q]? = some x) : l.take (q + 1) = l.take q ++ [x] := by rw [List.take_add_one, h]; rfl
theorem total_le {m : Nat} : ∀ (bs : List (List E)), (∀ r ∈ bs, r.length ≤ m) → total bs ≤ m * bs.length
  | [], _ => Nat.zero_le _
  | r :: bs, h => by
    have h1 := total_le bs (fun x hx => h x (List.mem_cons_of_mem _ hx))
    have h2 := h r (List.mem_cons_self ..)
    have h3 : total (r :: bs) = r.length + total bs := by unfold total; simp
    rw [h3, List.length_cons, Nat.mul_succ]
    omega
section
variable {A : Option Addr} {n cp : Nat} {bs : List (List E)} {w : World}
set_option maxRecDepth 20000 in
set_option maxHeartbeats 3200000 in
theorem refCount_any (lv nx : Int) (lo : Nat) (hb : HasBs w lo A bs) (hn : bs.length = n) (h9 : n ≤ 100000) (hr : ∀ r ∈ bs, r.length ≤ 100000) :
    Calls Try.prog 22 #[.agg #[.int .i64 lv, .int .i64 nx, .slice A n cp]] w fun e w' => e = .returned (.int .i64 (total bs : Nat)) ∧ Below w.heap.size w w' := by
  have hB := (Below.refl w.heap.size w).alloc (Nat.le_refl _) (.cells #[.int .i64 lv, .int .i64 nx, .slice A n cp] 27)
  have hx := Box3.new w (.int .i64 lv) (.int .i64 nx) (.slice A n cp) 27
  have HL := Lib.hid (And.intro (hb.below hB (Nat.le_refl _)) (And.intro hn hr))
  obtain ⟨g, hg⟩ : ∃ g, w.heap.size = g := ⟨_, rfl⟩
  rw [hg] at hx
  generalize hw0 : w.alloc (.cells #[.int .i64 lv, .int .i64 nx, .slice A n cp] 27) = wa at hB hx HL
  clear hb hn hr
  go_enter Try.func22, Try.ntmps22
  go_wp2
  clear hw0 hg
  go_loopw [3, 4] (fun v i wr => ∃ (q u : Nat), q ≤ n ∧ i = .int .i64 q ∧ v = .int .i64 u ∧ u ≤ 100000 * q ∧ Hid (u = total (bs.take q)) ∧ Below wa.heap.size wa wr) (fun _ i _ => n - (intOf i).toNat)
  case atStart => exact ⟨0, 0, Nat.zero_le _, rfl, rfl, Nat.zero_le _, Lib.hid rfl, Below.refl _ _⟩
  case round =>
    obtain ⟨q, u, hq, rfl, rfl, hu, hU, hy⟩ := hrel
    have x2 := (hx.below hy hx.lt).c2
    by_cases hlt : q < n
    · have hgt := List.getElem?_eq_getElem (l := bs) (i := q) (by rw [HL.out.2.1]; exact hlt)
      generalize (bs[q]'(by rw [HL.out.2.1]; exact hlt)) = r at hgt
      obtain ⟨b, o, A2, cp2, rfl, _, hlb, d0, _, _⟩ := Li.HasLs.at (HL.out.1.below hy (Nat.le_refl _)) hgt
      have hrm := HL.out.2.2 _ (List.mem_of_getElem? hgt)
      obtain ⟨rn, hrn⟩ : ∃ rn, r.length = rn := ⟨_, rfl⟩
      have HU : Hid (u + rn = total (bs.take (q + 1))) := Lib.hid (by rw [take_snocB hgt, total_snoc, ← hU.out, hrn])
      rw [hrn] at d0 hrm
      have i1 : (q : Int) < (n : Int) := by omega
      have i0 : (0 : Int) ≤ (q : Int) := by omega
      clear hgt hrn
      go_wp2
      go_roundw
      case rel => exact ⟨q + 1, u + rn, by omega, by go_num, by go_num, by omega, HU, hy⟩
      case measure => simp [intOf]; omega
    · obtain rfl : n = q := by omega
      have hfull : bs.take n = bs := List.take_of_length_le (by rw [HL.out.2.1]; exact Nat.le_refl _)
      have hU := hU.out
      rw [hfull] at hU
      have HU := Lib.hid hU
      have HB := Lib.hid (hB.trans (hy.mono hB.size))
      clear hfull hU
      go_wp2
      go_ret
      exact ⟨by rw [← HU.out]; rfl, HB.out⟩
end
end Go.Proofs.Ytocmkjccaajnnaa.Ha
