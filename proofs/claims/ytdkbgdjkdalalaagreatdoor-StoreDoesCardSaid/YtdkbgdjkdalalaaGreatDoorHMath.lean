/-
  Numbers and bits behind the heap's set of marked cells: which cells are marked behind a mark's laying or taking, and which is the lowest one from a cell on.
-/
import Derived.Lib.TrailingZeros
namespace Go.Proofs.YtdkbgdjkdalalaaGreatDoor
/-- Is a cell marked? -/
def Marked (ms : List Nat) (c : Nat) : Bool := (ms.getD (c / 64) 0).testBit (c % 64)
/-- Each element is a word of 64 bits. -/
def Small (ms : List Nat) : Prop := ∀ i, ms.getD i 0 < 18446744073709551616
theorem getD_set (l : List Nat) (i j x : Nat) : (l.set i x).getD j 0 = if i = j ∧ i < l.length then x else l.getD j 0 := by
  simp only [List.getD_eq_getElem?_getD, List.getElem?_set]
  by_cases h : i = j
  · subst h
    by_cases h2 : i < l.length
    · simp [h2]
    · simp [h2]
  · simp [h]
theorem bit_add (x c j : Nat) : (x ||| 2 ^ c).testBit j = (decide (j = c) || x.testBit j) := by
  rw [Nat.testBit_or, Nat.testBit_two_pow]
  by_cases h : j = c
  · subst h; simp
  · have : ¬ c = j := fun e => h e.symm
    simp [h, this]
theorem bit_remove (x c j : Nat) (hc : c < 64) (hj : j < 64) : (x &&& (18446744073709551615 - 2 ^ c)).testBit j = (decide (j ≠ c) && x.testBit j) := by
  have hlt : 2 ^ c < 2 ^ 64 := Nat.pow_lt_pow_right (by decide) hc
  rw [Nat.testBit_and, show 18446744073709551615 - 2 ^ c = 2 ^ 64 - (2 ^ c + 1) by omega, Nat.testBit_two_pow_sub_succ hlt, Nat.testBit_two_pow]
  by_cases h : j = c
  · subst h; simp
  · have : ¬ c = j := fun e => h e.symm
    simp [h, this, hj]
theorem small_add (x c : Nat) (hx : x < 18446744073709551616) (hc : c < 64) : x ||| 2 ^ c < 18446744073709551616 :=
  Nat.or_lt_two_pow (n := 64) hx (Nat.pow_lt_pow_right (by decide) hc)
theorem small_remove (x c : Nat) (hx : x < 18446744073709551616) : x &&& (18446744073709551615 - 2 ^ c) < 18446744073709551616 :=
  Nat.lt_of_le_of_lt Nat.and_le_left hx
def addMark (ms : List Nat) (c : Nat) : List Nat := ms.set (c / 64) (ms.getD (c / 64) 0 ||| 2 ^ (c % 64))
def removeMark (ms : List Nat) (c : Nat) : List Nat := ms.set (c / 64) (ms.getD (c / 64) 0 &&& (18446744073709551615 - 2 ^ (c % 64)))
theorem addMark_len (ms : List Nat) (c : Nat) : (addMark ms c).length = ms.length := by simp [addMark]
theorem removeMark_len (ms : List Nat) (c : Nat) : (removeMark ms c).length = ms.length := by simp [removeMark]
theorem Small.add {ms : List Nat} (h : Small ms) (c : Nat) : Small (addMark ms c) := by
  intro i
  unfold addMark
  rw [getD_set]
  split
  · exact small_add _ _ (h _) (Nat.mod_lt _ (by decide))
  · exact h i
theorem Small.remove {ms : List Nat} (h : Small ms) (c : Nat) : Small (removeMark ms c) := by
  intro i
  unfold removeMark
  rw [getD_set]
  split
  · exact small_remove _ _ (h _)
  · exact h i
theorem marked_add (ms : List Nat) (c d : Nat) (hc : c / 64 < ms.length) : Marked (addMark ms c) d = (decide (d = c) || Marked ms d) := by
  unfold Marked addMark
  rw [getD_set]
  by_cases h : c / 64 = d / 64
  · rw [if_pos ⟨h, hc⟩, bit_add, h]
    congr 1
    rw [decide_eq_decide]
    omega
  · rw [if_neg (fun e => h e.1)]
    have : ¬ d = c := fun e => h (by rw [e])
    simp [this]
theorem marked_remove (ms : List Nat) (c d : Nat) (hc : c / 64 < ms.length) : Marked (removeMark ms c) d = (decide (d ≠ c) && Marked ms d) := by
  unfold Marked removeMark
  rw [getD_set]
  by_cases h : c / 64 = d / 64
  · rw [if_pos ⟨h, hc⟩, bit_remove _ _ _ (Nat.mod_lt _ (by decide)) (Nat.mod_lt _ (by decide)), h]
    congr 1
    rw [decide_eq_decide]
    omega
  · rw [if_neg (fun e => h e.1)]
    have : ¬ d = c := fun e => h (by rw [e])
    simp [this]
/-- The lowest bit that is set. -/
theorem ctz_bits (x : Nat) (h0 : x ≠ 0) (h : x < 18446744073709551616) : x.testBit (Lib.ctz 64 x) = true ∧ Lib.ctz 64 x < 64 ∧ ∀ j, j < Lib.ctz 64 x → x.testBit j = false := by
  obtain ⟨m, hm, hk⟩ := Lib.ctzFrom_spec 64 x (by omega) h
  have e : Lib.ctz 64 x = Lib.ctzFrom 64 x := by simp [Lib.ctz, h0]
  rw [e]
  generalize Lib.ctzFrom 64 x = k at *
  refine ⟨?_, hk, ?_⟩
  · rw [hm, Nat.testBit_two_pow_mul]
    simp
  · intro j hj
    rw [hm, Nat.testBit_two_pow_mul]
    simp; omega
/-- What is left of a word when the bits below c are dropped. -/
def dropLow (x c : Nat) : Nat := x / 2 ^ c * 2 ^ c % 18446744073709551616
theorem dropLow_small (x c : Nat) : dropLow x c < 18446744073709551616 := Nat.mod_lt _ (by decide)
theorem dropLow_bit (x c j : Nat) (hj : j < 64) : (dropLow x c).testBit j = (decide (c ≤ j) && x.testBit j) := by
  unfold dropLow
  rw [show (18446744073709551616 : Nat) = 2 ^ 64 from rfl, Nat.testBit_mod_two_pow, Nat.mul_comm, Nat.testBit_two_pow_mul, Nat.testBit_div_two_pow]
  by_cases h : c ≤ j
  · simp [h, hj]
  · simp [h]
theorem dropLow_eq (x c : Nat) (hx : x < 18446744073709551616) : dropLow x c = x / 2 ^ c * 2 ^ c := by
  unfold dropLow
  exact Nat.mod_eq_of_lt (Nat.lt_of_le_of_lt (Nat.div_mul_le_self _ _) hx)
theorem zero_bits (x : Nat) (h : x = 0) (j : Nat) : x.testBit j = false := by subst h; simp
/-- The lowest marked cell at or above c; 0: there is none. -/
def IsNext (ms : List Nat) (c r : Nat) : Prop := (c ≤ r ∧ r < 64 * ms.length ∧ Marked ms r = true ∧ ∀ d, c ≤ d → d < r → Marked ms d = false) ∨ (r = 0 ∧ ∀ d, c ≤ d → Marked ms d = false)
theorem marked_high (ms : List Nat) (d : Nat) (h : 64 * ms.length ≤ d) : Marked ms d = false := by
  unfold Marked
  have : ms.getD (d / 64) 0 = 0 := by
    rw [List.getD_eq_getElem?_getD, List.getElem?_eq_none (by omega)]; rfl
  rw [this]; simp
/-- The found word's lowest bit is the next marked cell. -/
theorem isNext_found (ms : List Nat) (c i x : Nat) (hi : i < ms.length) (hx : x ≠ 0) (hs : x < 18446744073709551616)
    (hbits : ∀ j, j < 64 → x.testBit j = (decide (c ≤ 64 * i + j) && (ms.getD i 0).testBit j)) (hbelow : ∀ d, c ≤ d → d < 64 * i → Marked ms d = false) : IsNext ms c (i * 64 + Lib.ctz 64 x) := by
  obtain ⟨h1, h2, h3⟩ := ctz_bits x hx hs
  generalize Lib.ctz 64 x = k at *
  have hb := hbits k h2
  rw [h1] at hb
  have hb' := hb.symm
  rw [Bool.and_eq_true, decide_eq_true_eq] at hb'
  have hdiv : (i * 64 + k) / 64 = i := by omega
  have hmod : (i * 64 + k) % 64 = k := by omega
  refine .inl ⟨by omega, by omega, by unfold Marked; rw [hdiv, hmod]; exact hb'.2, fun d hd1 hd2 => ?_⟩
  by_cases hlt : d < 64 * i
  · exact hbelow d hd1 hlt
  · have hj := h3 (d - 64 * i) (by omega)
    rw [hbits (d - 64 * i) (by omega), show 64 * i + (d - 64 * i) = d by omega] at hj
    have hdd : d / 64 = i := by omega
    have hdm : d % 64 = d - 64 * i := by omega
    unfold Marked
    rw [hdd, hdm]
    simpa [hd1] using hj
theorem below_step (ms : List Nat) (c i x : Nat) (hx : x = 0)
    (hbits : ∀ j, j < 64 → x.testBit j = (decide (c ≤ 64 * i + j) && (ms.getD i 0).testBit j)) (hbelow : ∀ d, c ≤ d → d < 64 * i → Marked ms d = false) : ∀ d, c ≤ d → d < 64 * (i + 1) → Marked ms d = false := by
  intro d hd1 hd2
  by_cases hlt : d < 64 * i
  · exact hbelow d hd1 hlt
  · have hj := hbits (d - 64 * i) (by omega)
    rw [hx, show 64 * i + (d - 64 * i) = d by omega] at hj
    have hdd : d / 64 = i := by omega
    have hdm : d % 64 = d - 64 * i := by omega
    unfold Marked
    rw [hdd, hdm]
    simpa [hd1] using hj.symm
theorem isNext_none (ms : List Nat) (c i : Nat) (hi : ms.length ≤ i) (hbelow : ∀ d, c ≤ d → d < 64 * i → Marked ms d = false) : IsNext ms c 0 := by
  refine .inr ⟨rfl, fun d hd => ?_⟩
  by_cases h : d < 64 * i
  · exact hbelow d hd h
  · exact marked_high ms d (by omega)
end Go.Proofs.YtdkbgdjkdalalaaGreatDoor
