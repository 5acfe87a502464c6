/- Buckets, plainly: printed and parsed. No program. -/
import Derived.Test.YtmjlfhfadmndhaaBuA
namespace Go.Proofs.Ytmjlfhfadmndhaa.Bu
open Go.RowKit Pac

/-- May it be? -/
structure IsB (b : List E) : Prop where
  ris : Rises b
  len : b.length ≤ 512
  key : ∀ e ∈ b, e.key.size ≤ 61
  t0 : ∀ e ∈ b, 0 ≤ e.t ∧ e.t < 64
  s0 : ∀ e ∈ b, 0 ≤ e.s ∧ e.s < 8
def eNum (e : E) : Int := e.t * 8 + e.s
def printE (e : E) : ByteArray := txtB e.key ++ encB (zig (eNum e))
def catE : List E → ByteArray
  | [] => ⟨#[]⟩
  | e :: l => printE e ++ catE l
def printB (b : List E) : ByteArray := encB (zig (b.length : Int)) ++ catE b
/-- One entry is read. -/
def readE (s : ByteArray) : E × ByteArray × Bool :=
  (⟨txtR s false 61, (btwR (txtS s false 61) (txtBad s false 61) 0 511) / 8, (btwR (txtS s false 61) (txtBad s false 61) 0 511) % 8⟩, numS (txtS s false 61) (txtBad s false 61), btwBad (txtS s false 61) (txtBad s false 61) 0 511)
def readEs : Nat → ByteArray → Bool → List E × ByteArray × Bool
  | 0, s, d => ([], s, d)
  | m + 1, s, d => if d = true then ([], s, d) else ((readE s).1 :: (readEs m (readE s).2.1 (readE s).2.2).1, (readEs m (readE s).2.1 (readE s).2.2).2)
def seenB (s : ByteArray) : List E × ByteArray × Bool := readEs (btwR s false 0 512).toNat (numS s false) (btwBad s false 0 512)
open Classical in
noncomputable def parseB (s : ByteArray) : Option (List E) := if (seenB s).2.2 = false ∧ (seenB s).2.1 = ⟨#[]⟩ ∧ IsB (seenB s).1 then some (seenB s).1 else none
theorem empty_app (s : ByteArray) : (⟨#[]⟩ ++ s : ByteArray) = s := bytesEq' (by rw [app_list]; rfl)
theorem app_empty (s : ByteArray) : (s ++ ⟨#[]⟩ : ByteArray) = s := bytesEq' (by rw [app_list]; simp)
theorem readE_print (e : E) (r : ByteArray) (hk : e.key.size ≤ 61) (ht : 0 ≤ e.t ∧ e.t < 64) (hs : 0 ≤ e.s ∧ e.s < 8) : readE (printE e ++ r) = (e, r, false) := by
  obtain ⟨e1, e2, e3⟩ := text_enc e.key (encB (zig (eNum e)) ++ r) 61 (by omega) (by omega)
  obtain ⟨f1, f2, f3⟩ := btw_enc (eNum e) 0 511 r (by unfold eNum; omega) (by unfold eNum; omega) (by unfold eNum; omega) (by unfold eNum; omega)
  unfold readE printE
  rw [app_assoc, e1, e2, e3, f1, f2, f3]
  have h1 : eNum e / 8 = e.t := by unfold eNum; omega
  have h2 : eNum e % 8 = e.s := by unfold eNum; omega
  rw [h1, h2]
theorem readEs_print : ∀ (b : List E) (r : ByteArray), (∀ e ∈ b, e.key.size ≤ 61 ∧ (0 ≤ e.t ∧ e.t < 64) ∧ (0 ≤ e.s ∧ e.s < 8)) → readEs b.length (catE b ++ r) false = (b, r, false)
  | [], r, _ => by
    show ([], (⟨#[]⟩ ++ r : ByteArray), false) = _
    rw [empty_app]
  | e :: l, r, h => by
    obtain ⟨h1, h2, h3⟩ := h e (List.mem_cons_self ..)
    have ih := readEs_print l r (fun x hx => h x (List.mem_cons_of_mem _ hx))
    have he := readE_print e (catE l ++ r) h1 h2 h3
    show (if false = true then _ else _) = _
    rw [if_neg (by simp)]
    simp only [catE, app_assoc, he, ih]
theorem seenB_print {b : List E} (h : IsB b) (m : ByteArray) : seenB (printB b ++ m) = (b, m, false) := by
  have hl := h.len
  obtain ⟨f1, f2, f3⟩ := btw_enc (b.length : Int) 0 512 (catE b ++ m) (by omega) (by omega) (by omega) (by omega)
  unfold seenB printB
  rw [app_assoc, f1, f2, f3, Int.toNat_natCast, readEs_print b m (fun e he => ⟨h.key e he, h.t0 e he, h.s0 e he⟩)]
theorem parse_print {b : List E} (h : IsB b) : parseB (printB b) = some b := by
  have hs := seenB_print h ⟨#[]⟩
  rw [app_empty] at hs
  unfold parseB
  rw [hs, if_pos ⟨rfl, rfl, h⟩]
theorem parse_more {b : List E} (h : IsB b) {m : ByteArray} (hm : m ≠ ⟨#[]⟩) : parseB (printB b ++ m) = none := by
  unfold parseB
  rw [seenB_print h m, if_neg (fun q => hm q.2.1)]
theorem entry_dec (s : ByteArray) (h : (readE s).2.2 = false) : s = printE (readE s).1 ++ (readE s).2.1 := by
  unfold readE at h ⊢
  simp only at h ⊢
  cases hb : txtBad s false 61 with
  | true =>
    rw [hb] at h
    unfold btwBad numBad at h
    simp at h
  | false =>
    rw [hb] at h
    obtain ⟨e1, _⟩ := txt_dec hb
    obtain ⟨e2, g0, g1, _⟩ := btw_dec h
    have hk : eNum ⟨txtR s false 61, (btwR (txtS s false 61) false 0 511) / 8, (btwR (txtS s false 61) false 0 511) % 8⟩ = btwR (txtS s false 61) false 0 511 := by
      unfold eNum
      simp only
      omega
    unfold printE
    rw [hk, app_assoc, ← e2]
    exact e1
theorem entries_dec : ∀ (m : Nat) (s : ByteArray), (readEs m s false).2.2 = false → s = catE (readEs m s false).1 ++ (readEs m s false).2.1 ∧ (readEs m s false).1.length = m
  | 0, s, _ => ⟨(empty_app s).symm, rfl⟩
  | m + 1, s, h => by
    have hu : readEs (m + 1) s false = ((readE s).1 :: (readEs m (readE s).2.1 (readE s).2.2).1, (readEs m (readE s).2.1 (readE s).2.2).2) := rfl
    rw [hu] at h ⊢
    simp only at h ⊢
    cases hb : (readE s).2.2 with
    | true =>
      rw [hb] at h
      cases m with
      | zero => simp [readEs] at h
      | succ m => simp [readEs] at h
    | false =>
      rw [hb] at h
      obtain ⟨ih, il⟩ := entries_dec m (readE s).2.1 h
      have e := entry_dec s hb
      refine ⟨?_, by simp [il]⟩
      simp only [catE]
      rw [app_assoc, ← ih]
      exact e
/-- What is parsed may be, and is printed just so. -/
theorem parse_exact {s : ByteArray} {b : List E} (h : parseB s = some b) : IsB b ∧ s = printB b := by
  unfold parseB at h
  split at h
  · rename_i q
    injection h with h
    obtain ⟨q1, q2, q3⟩ := q
    rw [h] at q3
    refine ⟨q3, ?_⟩
    unfold seenB at q1 q2 h
    cases hd : btwBad s false 0 512 with
    | true =>
      rw [hd] at q1
      generalize (btwR s false 0 512).toNat = m at q1
      cases m with
      | zero => simp [readEs] at q1
      | succ m => simp [readEs] at q1
    | false =>
      rw [hd] at q1 q2 h
      obtain ⟨f2, g0, g1, _⟩ := btw_dec hd
      obtain ⟨f3, hl⟩ := entries_dec _ _ q1
      rw [q2, h, app_empty] at f3
      rw [h] at hl
      have hn : btwR s false 0 512 = (b.length : Int) := by omega
      unfold printB
      rw [← f3, ← hn]
      exact f2
  · cases h
end Go.Proofs.Ytmjlfhfadmndhaa.Bu
