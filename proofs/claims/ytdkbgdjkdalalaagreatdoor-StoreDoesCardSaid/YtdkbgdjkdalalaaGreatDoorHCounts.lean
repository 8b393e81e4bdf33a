/-
  What the law HeapRoom reckons, as plain functions over the objects: the cells that the objects take, counted one after another, and the rest; the first object, freed again and again, until none is left. No program.
-/
import Derived.Test.YtdkbgdjkdalalaaGreatDoorHFits
namespace Go.Proofs.YtdkbgdjkdalalaaGreatDoor
open Go.RowKit
theorem max_le_sum (l : List (Nat × Nat)) : maxR l ≤ sumR l := by
  induction l with
  | nil => exact Nat.le_refl _
  | cons r l ih => simp only [maxR, sumR]; omega
theorem long_le_room (words : Nat) (L : List Ob) : longOf words L ≤ roomOf words L := max_le_sum _
theorem used_append (A B : List Ob) : usedBy (A ++ B) = usedBy A + usedBy B := by
  induction A with
  | nil => simp [usedBy]
  | cons o A ih => rw [List.cons_append, usedBy, usedBy, ih]; omega
/-- In the midst of the count: the objects so far take this many cells, and the next one stands there. -/
def Counts (L : List Ob) (words used at_ : Nat) : Prop := ∃ A B, L = A ++ B ∧ Lies words 1 L ∧ used = usedBy A ∧ at_ = headAt B
theorem counts_start {L : List Ob} {words : Nat} (hl : Lies words 1 L) : Counts L words 0 (nextOb L 0) := ⟨[], L, rfl, hl, rfl, next_head words 1 L hl 0 (by omega)⟩
theorem counts_end {L : List Ob} {words used : Nat} (h : Counts L words used 0) : used + roomOf words L + 1 = words := by
  obtain ⟨A, B, h1, h2, h3, h4⟩ := h
  cases B with
  | nil =>
    rw [List.append_nil] at h1
    have h5 := free_sum words 1 L h2
    rw [h3, ← h1]
    unfold roomOf
    omega
  | cons b B =>
    rw [h1] at h2
    have h5 := lies_append words 1 A _ h2
    have h6 := h5.2.1
    have h7 := h5.1
    have h8 : 0 = b.at_ := h4
    omega
theorem counts_le {L : List Ob} {words used a : Nat} (h : Counts L words used a) : a ≤ words ∧ used ≤ words := by
  obtain ⟨A, B, h1, h2, h3, h4⟩ := h
  have h5 := free_sum words 1 L h2
  have h6 : usedBy L = usedBy A + usedBy B := by rw [h1, used_append]
  refine ⟨?_, by omega⟩
  cases B with
  | nil => rw [h4]; exact Nat.zero_le _
  | cons b B =>
    rw [h1] at h2
    have h7 := lies_mem words _ _ h2 b (by simp)
    have hnx : b.next = b.at_ + 1 + b.fs.length := rfl
    have h8 : a = b.at_ := h4
    omega
theorem counts_step {L : List Ob} {words used a : Nat} (h : Counts L words used a) (ha : a ≠ 0) :
    ∃ x, findOb L a = some x ∧ used + x.fs.length + 1 ≤ words ∧ Counts L words (used + x.fs.length + 1) (nextOb L (a + 1)) ∧ (nextOb L (a + 1) = 0 ∨ a < nextOb L (a + 1)) ∧ nextOb L (a + 1) ≤ words := by
  obtain ⟨A, B, h1, h2, h3, h4⟩ := h
  cases B with
  | nil => exact absurd h4 ha
  | cons x B =>
    have hxa : a = x.at_ := h4
    have hl := h2
    rw [h1] at h2
    have h5 := lies_append words 1 A _ h2
    have hN : nextOb L (a + 1) = headAt B := by rw [h1, hxa]; exact next_step words 1 A B x h2
    have hF : findOb L a = some x := by rw [h1, hxa]; exact find_mid words 1 A B x h2
    have hC : Counts L words (used + x.fs.length + 1) (nextOb L (a + 1)) := ⟨A ++ [x], B, by rw [h1]; simp, hl, by rw [used_append, h3]; simp only [usedBy]; omega, hN⟩
    refine ⟨x, hF, ?_, hC, ?_, (counts_le hC).1⟩
    · have := (counts_le hC).2; omega
    · rw [hN]
      cases B with
      | nil => exact .inl rfl
      | cons b B =>
        have h6 := h5.2.2.1
        have hnx : x.next = x.at_ + 1 + x.fs.length := rfl
        exact .inr (by show a < b.at_; omega)
theorem first_none {L : List Ob} {words : Nat} (hl : Lies words 1 L) (h : nextOb L 0 = 0) : L = [] := by
  cases L with
  | nil => rfl
  | cons x L =>
    rw [next_head words 1 _ hl 0 (by omega)] at h
    have h1 : 1 ≤ x.at_ := hl.1
    have h2 : x.at_ = 0 := h
    omega
theorem first_step {L : List Ob} {words : Nat} (hl : Lies words 1 L) (h : nextOb L 0 ≠ 0) :
    ∃ L', hFree L (nextOb L 0 : Nat) = (0, L') ∧ (nextOb L' 0 = 0 ∨ nextOb L 0 < nextOb L' 0) ∧ nextOb L 0 ≤ words ∧ nextOb L' 0 ≤ words := by
  cases L with
  | nil => exact absurd rfl h
  | cons x L =>
    have hN : nextOb (x :: L) 0 = x.at_ := next_head words 1 _ hl 0 (by omega)
    have hnx : x.next = x.at_ + 1 + x.fs.length := rfl
    have h1 : 1 ≤ x.at_ := hl.1
    have h2 : Lies words x.next L := hl.2
    have h3 := lies_mem words _ _ hl x (by simp)
    have hN' : nextOb L 0 = headAt L := next_head words _ _ h2 0 (by omega)
    refine ⟨L, ?_, ?_, by omega, ?_⟩
    · rw [hN]
      unfold hFree
      rw [if_neg (by omega), Int.toNat_natCast]
      have hf : findOb (x :: L) x.at_ = some x := by unfold findOb; rw [if_pos rfl]
      have hd : dropOb (x :: L) x.at_ = L := by unfold dropOb; rw [if_pos rfl]
      rw [hf, hd]
    · rw [hN, hN']
      cases L with
      | nil => exact .inl rfl
      | cons y L => exact .inr (by have := h2.1; show x.at_ < y.at_; omega)
    · rw [hN']
      cases L with
      | nil => exact Nat.zero_le _
      | cons y L =>
        have h4 := lies_mem words _ _ h2 y (by simp)
        have hny : y.next = y.at_ + 1 + y.fs.length := rfl
        show y.at_ ≤ words
        omega
theorem room_nil (words : Nat) : roomOf words [] = words - 1 := sum_one 1 _
theorem long_nil (words : Nat) : longOf words [] = words - 1 := max_one 1 _
end Go.Proofs.YtdkbgdjkdalalaaGreatDoor
