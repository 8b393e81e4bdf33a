/-
  The walks of Text of both sides: the decimal digits of a number of 64 bits, with a sign ahead of them if it is negative. Condition for the program's: strconv's table of powers of ten holds what its initialiser lays.
-/
import Derived.Test.YtigbapkdpaahjaaDoorNums
import Derived.Test.YtigbapkdpaahjaaDoorShelf
import Derived.Laws.BytesArg
import Derived.Laws.Concat
import Derived.Lib.AppendIntMem
import Derived.Lib.ItoaLen
import Derived.WalkSmall
namespace Go.Proofs.YtigbapkdpaahjaaDoor
open Go.RowKit
/-- strconv's table of powers of ten is as its initialiser lays it. -/
def Tab (w : World) : Prop := Lib.TabIs Tryd.prog w "internal/strconv.uint64pow10" .u64 Lib.pow10Tab
theorem itoa_digit (n : Int) (h0 : 0 ≤ n) (h1 : n < 10) : Lib.itoa n = [UInt8.ofNat (48 + n).toNat] := by
  unfold Lib.itoa
  rw [if_neg (by omega), Lib.decDigits, dif_pos (by omega)]
  congr 2
  omega
theorem itoa_minus_digit (n : Int) (h0 : n < 0) (h1 : -10 < n) : Lib.itoa n = 45 :: Lib.itoa (- n) := by
  unfold Lib.itoa
  rw [if_pos h0, if_neg (by omega)]
  congr 2
  omega
theorem itoa_pos (n : Int) (h0 : 10 ≤ n) : Lib.itoa n = Lib.itoa (n / 10) ++ Lib.itoa (n % 10) := by
  unfold Lib.itoa
  rw [if_neg (by omega), if_neg (by omega), if_neg (by omega), Lib.decDigits, dif_neg (by omega)]
  have e1 : n.toNat / 10 = (n / 10).toNat := by omega
  rw [e1]
  congr 1
  rw [Lib.decDigits, dif_pos (by omega)]
  congr 2
  omega
theorem tdiv10 (n : Int) (h : n < 0) : n.tdiv 10 = - ((-n) / 10) := by
  have h2 := Int.neg_tdiv (-n) 10
  rw [Int.neg_neg] at h2
  rw [h2, Int.tdiv_eq_ediv_of_nonneg (by omega)]
theorem tmod10 (n : Int) (h : n < 0) : n.tmod 10 = - ((-n) % 10) := by
  rw [Int.tmod_def, tdiv10 n h]
  omega
theorem itoa_neg (n : Int) (h0 : n ≤ -10) : Lib.itoa n = Lib.itoa (n.tdiv 10) ++ Lib.itoa (- n.tmod 10) := by
  rw [tdiv10 n (by omega), tmod10 n (by omega)]
  unfold Lib.itoa
  rw [if_pos (by omega), if_pos (by omega), if_neg (by omega), Lib.decDigits, dif_neg (by omega)]
  have e1 : n.natAbs / 10 = (-(-n / 10)).natAbs := by omega
  rw [e1, List.cons_append]
  congr 2
  rw [Lib.decDigits, dif_pos (by omega)]
  congr 2
  omega
theorem itoa_short (n : Int) (h0 : -9223372036854775808 ≤ n) (h1 : n ≤ 9223372036854775807) : (Lib.itoa n).length ≤ 21 := Lib.itoa_length_le n h0 h1
theorem strMade_two {l a b : List UInt8} {w w' : World} (h : l = a ++ b) (hb : Below w.heap.size w w') : StrMade l w (.returned (.string (⟨a.toArray⟩ ++ ⟨b.toArray⟩))) w' :=
  ⟨by rw [ByteArray.mk_append_mk, h], hb⟩
def Size (n : Int) : Nat := if n < 0 then 2 * n.natAbs + 1 else 2 * n.natAbs
theorem size_neg {n : Int} {k : Nat} (hs : n < 0) (h : Size n < k + 1) : Size (-n) < k := by
  unfold Size at h ⊢
  rw [if_pos hs] at h
  rw [if_neg (by omega)]
  omega
theorem size_less {n m : Int} {k : Nat} (h : Size n < k + 1) (hm : m.natAbs < n.natAbs) : Size m < k := by
  unfold Size at h ⊢
  split <;> split at h <;> omega
set_option maxHeartbeats 1000000 in
set_option maxRecDepth 100000 in
theorem ref_Text (k : Nat) : ∀ (n : Int) (w : World), Size n < k → -9223372036854775808 ≤ n → n ≤ 9223372036854775807 → Calls Tryd.prog 17 #[.int .i64 n] w (StrMade (Lib.itoa n) w) := by
  induction k with
  | zero => intro n w hk; omega
  | succ k ih =>
    intro n w hk h0 h1
    have IH := Lib.hid ih
    clear ih
    by_cases hd : 0 ≤ n ∧ n < 10
    · obtain ⟨hd0, hd1⟩ := hd
      have HD := Lib.hid (itoa_digit n hd0 hd1)
      go_enter Tryd.func17, Tryd.ntmps17
      go_wp2_with fail
      rw [oneByte _ _ _ rfl]
      simp only [Result.andThen]
      rw [Oper.upon_value]
      go_wp2_with fail
      refine bodyPost_ret (v := .string ⟨[UInt8.ofNat (48 + n).toNat].toArray⟩) (by simp [results, Tryd.results17, go_sem]) rfl ⟨by rw [HD.out], (Below.refl _ _).alloc (Nat.le_refl _) _⟩
    · by_cases hs : n < 0 ∧ -10 < n
      · obtain ⟨hs0, hs1⟩ := hs
        have HD := Lib.hid (itoa_minus_digit n hs0 hs1)
        have HL := Lib.hid (itoa_short (-n) (by omega) (by omega))
        go_enter Tryd.func17, Tryd.ntmps17
        go_wp2_with fail
        refine (IH.out (-n) _ (size_neg hs0 hk) (by omega) (by omega)).mono ?_
        rintro e w1 ⟨rfl, hb1⟩
        have HB1 := Lib.hid hb1
        clear hb1
        have hsum : ¬ (9223372036854775807 < 1 + (Lib.itoa (-n)).length) := by
          have := HL.out
          omega
        go_wp2_with fail
        go_ret
        exact strMade_two (a := [45]) HD.out HB1.out
      · by_cases hn : n < 0
        · have h10 : n ≤ -10 := by omega
          have HD := Lib.hid (itoa_neg n h10)
          have q1 : Size (n.tdiv 10) < k := size_less hk (by rw [tdiv10 n (by omega)]; omega)
          have q2 : -9223372036854775808 ≤ n.tdiv 10 := by rw [tdiv10 n (by omega)]; omega
          have q3 : n.tdiv 10 ≤ 9223372036854775807 := by rw [tdiv10 n (by omega)]; omega
          have r1 : -9 ≤ n.tmod 10 := by rw [tmod10 n (by omega)]; omega
          have r2 : n.tmod 10 ≤ 0 := by rw [tmod10 n (by omega)]; omega
          have HL := Lib.hid (itoa_short _ q2 q3)
          have HM := Lib.hid (itoa_short (- n.tmod 10) (by omega) (by omega))
          clear hd hs
          go_enter Tryd.func17, Tryd.ntmps17
          go_wp2_with fail
          refine (IH.out (n.tdiv 10) _ q1 q2 q3).mono ?_
          rintro e w1 ⟨rfl, hb1⟩
          have HB1 := Lib.hid hb1
          clear hb1
          go_wp2_with fail
          refine (IH.out (- n.tmod 10) _ (size_less hk (by omega)) (by omega) (by omega)).mono ?_
          rintro e w2 ⟨rfl, hb2⟩
          have HB2 := Lib.hid (HB1.out.trans (hb2.mono HB1.out.size))
          clear hb2
          have hsum : ¬ (9223372036854775807 < (Lib.itoa (n.tdiv 10)).length + (Lib.itoa (-n.tmod 10)).length) := by
            have := HL.out
            have := HM.out
            omega
          go_wp2_with fail
          go_ret
          exact strMade_two HD.out HB2.out
        · have h10 : 10 ≤ n := by omega
          have HD := Lib.hid (itoa_pos n h10)
          have HL := Lib.hid (itoa_short (n / 10) (by omega) (by omega))
          have HM := Lib.hid (itoa_short (n % 10) (by omega) (by omega))
          clear hd hs
          go_enter Tryd.func17, Tryd.ntmps17
          go_wp2_with fail
          refine (IH.out (n / 10) _ (size_less hk (by omega)) (by omega) (by omega)).mono ?_
          rintro e w1 ⟨rfl, hb1⟩
          have HB1 := Lib.hid hb1
          clear hb1
          go_wp2_with fail
          refine (IH.out (n % 10) _ (size_less hk (by omega)) (by omega) (by omega)).mono ?_
          rintro e w2 ⟨rfl, hb2⟩
          have HB2 := Lib.hid (HB1.out.trans (hb2.mono HB1.out.size))
          clear hb2
          have hsum : ¬ (9223372036854775807 < (Lib.itoa (n / 10)).length + (Lib.itoa (n % 10)).length) := by
            have := HL.out
            have := HM.out
            omega
          go_wp2_with fail
          go_ret
          exact strMade_two HD.out HB2.out
end Go.Proofs.YtigbapkdpaahjaaDoor
