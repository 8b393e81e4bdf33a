/-
  Plain facts: a product by sums that are doubled is the product brought into 63 bits.
-/
import Derived.Test.YtolifejbenpeoaaDoorMath
namespace Go.Proofs.YtolifejbenpeoaaDoor
open Go.RowKit
theorem w63_eq_iff (m n : Int) : W63 m = W63 n ↔ (m - n) % 9223372036854775808 = 0 := by unfold W63; omega
theorem w63_dvd (n : Int) : ∃ k : Int, W63 n = n + 9223372036854775808 * k := ⟨-((n + 4611686018427387904) / 9223372036854775808), by unfold W63; omega⟩
theorem w63_of_dvd {m n k : Int} (h : m = n + 9223372036854775808 * k) : W63 m = W63 n := by unfold W63; omega
theorem w63_add (m n : Int) : W63 (W63 m + n) = W63 (m + n) := by
  obtain ⟨k, hk⟩ := w63_dvd m
  exact w63_of_dvd (k := k) (by omega)
theorem w63_add_r (m n : Int) : W63 (m + W63 n) = W63 (m + n) := by
  rw [Int.add_comm, w63_add, Int.add_comm]
theorem w63_mul (m n : Int) : W63 (W63 m * n) = W63 (m * n) := by
  obtain ⟨k, hk⟩ := w63_dvd m
  refine w63_of_dvd (k := k * n) ?_
  rw [hk, Int.add_mul, Int.mul_assoc]
theorem w63_mul_r (m n : Int) : W63 (m * W63 n) = W63 (m * n) := by
  rw [Int.mul_comm, w63_mul, Int.mul_comm]
theorem w63_neg (n : Int) : W63 (- W63 n) = W63 (- n) := by
  obtain ⟨k, hk⟩ := w63_dvd n
  exact w63_of_dvd (k := -k) (by omega)
theorem w63_sub (m n : Int) : W63 (W63 m - W63 n) = W63 (m - n) := by
  obtain ⟨k, hk⟩ := w63_dvd m
  obtain ⟨l, hl⟩ := w63_dvd n
  exact w63_of_dvd (k := k - l) (by omega)
theorem tdiv2 (b : Int) : b.tdiv 2 = if 0 ≤ b then b / 2 else -((-b) / 2) := by
  split
  · rename_i h
    exact Int.tdiv_eq_ediv_of_nonneg h
  · rename_i h
    have h2 := Int.neg_tdiv (-b) 2
    rw [Int.neg_neg] at h2
    rw [h2, Int.tdiv_eq_ediv_of_nonneg (by omega)]
theorem tmod2 (b : Int) : b.tmod 2 = b - 2 * b.tdiv 2 := Int.tmod_def b 2
/-- What the loop of sums keeps: n + a * |b|. -/
def MulKeep (n a b : Int) : Int := W63 (n + a * b.natAbs)
theorem mul_odd (n a b : Int) (h : b.tmod 2 ≠ 0) : MulKeep (W63 (n + a)) (W63 (a + a)) (b.tdiv 2) = MulKeep n a b := by
  have h1 : (b.natAbs : Int) = 2 * (b.tdiv 2).natAbs + 1 := by
    rw [tmod2] at h
    rw [tdiv2] at h ⊢
    split at h <;> split <;> omega
  unfold MulKeep
  rw [h1, w63_add]
  rw [← w63_add_r, w63_mul, w63_add_r]
  congr 1
  rw [Int.mul_add, Int.add_mul, Int.mul_one, Int.mul_left_comm]
  omega
theorem mul_even (n a b : Int) (h : b.tmod 2 = 0) : MulKeep n (W63 (a + a)) (b.tdiv 2) = MulKeep n a b := by
  have h1 : (b.natAbs : Int) = 2 * (b.tdiv 2).natAbs := by
    rw [tmod2] at h
    rw [tdiv2] at h ⊢
    split at h <;> split <;> omega
  unfold MulKeep
  rw [h1]
  rw [← w63_add_r, w63_mul, w63_add_r]
  congr 1
  rw [Int.add_mul, Int.mul_left_comm]
  omega
theorem mul_start (a b : Int) : MulKeep 0 a b = W63 (a * b.natAbs) := by
  unfold MulKeep
  rw [Int.zero_add]
theorem mul_end (n a : Int) : MulKeep n a 0 = W63 n := by
  unfold MulKeep
  simp
theorem mul_minus (a b n : Int) (hb : b < 0) (h : W63 n = W63 (a * b.natAbs)) : W63 (0 - n) = W63 (a * b) := by
  have h1 : (b.natAbs : Int) = - b := by omega
  rw [h1] at h
  rw [Int.zero_sub, ← w63_neg, h, w63_neg, Int.mul_neg, Int.neg_neg]
theorem mul_plus (a b n : Int) (hb : ¬ b < 0) (h0 : -4611686018427387904 ≤ n) (h1 : n ≤ 4611686018427387903) (h : W63 n = W63 (a * b.natAbs)) : n = W63 (a * b) := by
  have h2 : (b.natAbs : Int) = b := by omega
  rw [h2] at h
  rw [← h, w63_in n h0 h1]
theorem half_lt (b : Int) (h : ¬ b = 0) : (b.tdiv 2).natAbs < b.natAbs := by
  rw [tdiv2]
  split <;> omega
theorem half_lo (b : Int) (h0 : -4611686018427387904 ≤ b) : -4611686018427387904 ≤ b.tdiv 2 := by
  rw [tdiv2]
  split <;> omega
theorem half_hi (b : Int) (h1 : b ≤ 4611686018427387903) : b.tdiv 2 ≤ 4611686018427387903 := by
  rw [tdiv2]
  split <;> omega
theorem tdiv_abs (A B : Int) : (A.tdiv B).natAbs = A.natAbs / B.natAbs := Int.natAbs_tdiv A B
theorem tdiv_bound (A B : Int) (h0 : -4611686018427387904 ≤ A) (h1 : A ≤ 4611686018427387903) : -4611686018427387904 ≤ A.tdiv B ∧ A.tdiv B ≤ 4611686018427387904 := by
  have h := tdiv_abs A B
  have h2 := Nat.div_le_self A.natAbs B.natAbs
  omega
theorem tdiv_mul_bound (A B : Int) (h0 : -4611686018427387904 ≤ A) (h1 : A ≤ 4611686018427387903) : -4611686018427387904 ≤ A.tdiv B * B ∧ A.tdiv B * B ≤ 4611686018427387904 := by
  have h := tdiv_abs A B
  have h2 := Nat.div_mul_le_self A.natAbs B.natAbs
  have h3 := Int.natAbs_mul (A.tdiv B) B
  rw [h] at h3
  omega
theorem tmod_of (A B : Int) : A - A.tdiv B * B = A.tmod B := by
  rw [Int.tmod_def, Int.mul_comm]
theorem tmod_abs (A B : Int) : (A.tmod B).natAbs = A.natAbs % B.natAbs := Int.natAbs_tmod A B
theorem tmod_bound (A B : Int) (h0 : -4611686018427387904 ≤ A) (h1 : A ≤ 4611686018427387903) : -4611686018427387904 ≤ A.tmod B ∧ A.tmod B ≤ 4611686018427387904 := by
  have h := tmod_abs A B
  have h2 := Nat.mod_le A.natAbs B.natAbs
  omega
theorem tmod_in (A B : Int) (h0 : -4611686018427387904 ≤ A) (h1 : A ≤ 4611686018427387903) : W63 (A.tmod B) = A.tmod B := by
  have h := tmod_abs A B
  have h2 := Nat.mod_le A.natAbs B.natAbs
  have h3 := tdiv_abs A B
  have h4 := Int.tmod_def A B
  refine w63_in _ (by omega) ?_
  by_cases hA : 0 ≤ A
  · omega
  · have h5 : A.tmod B ≤ 0 := by
      have h6 := Int.neg_tmod (-A) B
      rw [Int.neg_neg] at h6
      have h7 := Int.tmod_nonneg B (a := -A) (by omega)
      omega
    omega
end Go.Proofs.YtolifejbenpeoaaDoor
