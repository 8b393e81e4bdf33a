/-
  Plain facts on integers: bringing a number into 63 bits, a number's word, and back. Imports nothing of the program.
-/
import Derived.WalkKit
import Derived.WalkSmall
namespace Go.Proofs.YtigbapkdpaahjaaDoor
open Go.RowKit

/-- n brought into 63 bits. -/
def W63 (n : Int) : Int := (n + 4611686018427387904) % 9223372036854775808 - 4611686018427387904
/-- wrapped as 64 bits without a sign -/
def U64 (n : Int) : Int := n % 18446744073709551616
/-- the word of a number -/
def WOf (n : Int) : Int := U64 (2 * W63 n + 1)
def WNum (w : Int) : Int := if w / 2 < 4611686018427387904 then w / 2 else w / 2 - 9223372036854775808
def WRef (a : Int) : Int := if a < 0 ∨ 2147483647 < a then 0 else 2 * a
def WAddr (w : Int) : Int := if w % 2 = 1 ∨ 2147483647 < w / 2 then 0 else w / 2
def WIs (w : Int) : Bool := decide (w % 2 = 1)

theorem w63_lo (n : Int) : -4611686018427387904 ≤ W63 n := by unfold W63; omega
theorem w63_hi (n : Int) : W63 n ≤ 4611686018427387903 := by unfold W63; omega
theorem w63_shl (n : Int) : wrap64 (n * 2) / 2 = W63 n := by unfold W63 wrap64; omega
theorem w63_above (n : Int) (h : n ≤ 9223372036854775807) (h1 : 4611686018427387903 < n) : n - 4611686018427387903 - 4611686018427387903 - 2 = W63 n := by
  unfold W63; omega
theorem w63_below (n : Int) (h : -9223372036854775808 ≤ n) (h1 : n < -4611686018427387904) : n + 4611686018427387903 + 4611686018427387903 + 2 = W63 n := by
  unfold W63; omega
theorem w63_in (n : Int) (h : -4611686018427387904 ≤ n) (h1 : n ≤ 4611686018427387903) : W63 n = n := by unfold W63; omega
theorem w63_idem (n : Int) : W63 (W63 n) = W63 n := w63_in _ (w63_lo n) (w63_hi n)
theorem w63_wrap64 (n : Int) : W63 (wrap64 n) = W63 n := by unfold W63 wrap64; omega
theorem wof_lo (n : Int) : 0 ≤ WOf n := by unfold WOf U64; omega
theorem wof_hi (n : Int) : WOf n ≤ 18446744073709551615 := by unfold WOf U64; omega
theorem wnum_of (n : Int) : WNum (WOf n) = W63 n := by
  have h1 := w63_lo n
  have h2 := w63_hi n
  unfold WNum WOf U64
  split <;> omega
theorem wis_of (n : Int) : WIs (WOf n) = true := by
  unfold WIs WOf U64
  simp only [decide_eq_true_eq]
  omega
theorem wref_lo (a : Int) : 0 ≤ WRef a := by unfold WRef; split <;> omega
theorem wref_hi (a : Int) : WRef a ≤ 18446744073709551615 := by unfold WRef; split <;> omega
theorem waddr_ref (a : Int) (h0 : 0 ≤ a) (h1 : a ≤ 2147483647) : WAddr (WRef a) = a := by
  unfold WAddr WRef
  rw [if_neg (by omega)]
  rw [if_neg (by omega)]
  omega
theorem wis_ref (a : Int) : WIs (WRef a) = false := by
  unfold WIs WRef
  simp only [decide_eq_false_iff_not]
  split <;> omega
theorem u64_wrap (n : Int) : IntKind.u64.wrap n = n % 18446744073709551616 := by simp [IntKind.wrap, IntKind.bits, IntKind.signed]
theorem wraps_u64 (n : Int) (h0 : 0 ≤ n) (h1 : n < 2 ^ 64) : IntKind.u64.wrap n = n := by rw [u64_wrap]; omega
theorem or_one_u64 (x : Int) (h0 : 0 ≤ x) (h1 : x ≤ 18446744073709551615) (hx : x % 2 = 0) : bits BinOp.or IntKind.u64 x 1 = x + 1 :=
  bits_join .u64 64 (by decide) wraps_u64 1 x 1 h0 (by omega) (by omega) (by omega) (by omega) (by omega)
theorem wof_bits (n : Int) : bits BinOp.or IntKind.u64 (IntKind.u64.wrap (IntKind.u64.wrap n * 2)) 1 = WOf n := by
  rw [u64_wrap, u64_wrap, or_one_u64 _ (by omega) (by omega) (by omega)]
  unfold WOf U64 W63
  omega
theorem wof_sum (n : Int) : IntKind.u64.wrap (IntKind.u64.wrap (IntKind.u64.wrap (W63 n) * 2) + 1) = WOf n := by
  rw [u64_wrap, u64_wrap, u64_wrap]
  unfold WOf U64 W63
  omega
theorem wnum_half (n : Int) (h0 : 0 ≤ n) (h1 : n ≤ 18446744073709551615) : wrap64 n / 2 = WNum n := by
  unfold WNum wrap64
  split <;> omega
theorem wis_and (n : Int) (h0 : 0 ≤ n) (h1 : n ≤ 18446744073709551615) : (bits BinOp.and IntKind.u64 n 1 == 1) = WIs n := by
  rw [and_one_u64 n h0 h1]
  unfold WIs
  rw [Bool.eq_iff_iff]
  simp
theorem wis_rem (n : Int) : (n % 2 == 1) = WIs n := by
  unfold WIs
  rw [Bool.eq_iff_iff]
  simp
end Go.Proofs.YtigbapkdpaahjaaDoor
