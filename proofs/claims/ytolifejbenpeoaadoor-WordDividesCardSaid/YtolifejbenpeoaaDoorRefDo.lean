/-
  The walks of the reference's product and of its Do: what the plain function DoV says. Condition: the two numbers are numbers of 64 bits.
-/
import Derived.Test.YtolifejbenpeoaaDoorDo
import Derived.Test.YtolifejbenpeoaaDoorMul
import Derived.Deep.LoopGhost
namespace Go.Proofs.YtolifejbenpeoaaDoor
open Go.RowKit
set_option maxHeartbeats 400000 in
theorem ref_truth (b : Bool) (w : World) : Calls Tryd.prog 36 #[.bool b] w fun e w' => e = .returned (.int .i64 (if b = true then 1 else 0)) ∧ w = w' := by
  cases b
  · go_enter Tryd.func36, Tryd.ntmps36
    go_wp2
    go_ret
    exact ⟨rfl, rfl⟩
  · go_enter Tryd.func36, Tryd.ntmps36
    go_wp2
    go_ret
    exact ⟨rfl, rfl⟩
def Small63 (n : Int) : Prop := -4611686018427387904 ≤ n ∧ n ≤ 4611686018427387903
theorem small63 (n : Int) : Small63 (W63 n) := ⟨w63_lo n, w63_hi n⟩
def MulRel (A B n a b : Int) : Prop := W63 (A * B.natAbs) = MulKeep n a b
set_option maxHeartbeats 1000000 in
theorem ref_mul (A B : Int) (w : World) (ha0 : -4611686018427387904 ≤ A) (ha1 : A ≤ 4611686018427387903) (hb0 : -4611686018427387904 ≤ B) (hb1 : B ≤ 4611686018427387903) :
    Calls Tryd.prog 35 #[.int .i64 A, .int .i64 B] w fun e w' => e = .returned (.int .i64 (W63 (A * B))) ∧ w = w' := by
  by_cases hm : B < 0
  · go_enter Tryd.func35, Tryd.ntmps35
    go_wp2_with fail
    go_loop [5, 0, 1] (fun s p q => ∃ n a b : Int, s = .int .i64 n ∧ p = .int .i64 a ∧ q = .int .i64 b ∧ Small63 n ∧ Small63 a ∧ Small63 b ∧ MulRel A B n a b) (fun _ _ q => (intOf q).natAbs)
    case atStart => exact ⟨0, A, B, rfl, rfl, rfl, by unfold Small63; omega, ⟨ha0, ha1⟩, ⟨hb0, hb1⟩, (mul_start A B).symm⟩
    case round =>
      obtain ⟨n, a, b, rfl, rfl, rfl, ⟨hn0, hn1⟩, ⟨hx0, hx1⟩, ⟨hy0, hy1⟩, hrel⟩ := hrel
      by_cases hb : b = 0
      · subst hb
        have hE := Lib.hid (hrel.trans (mul_end n a)).symm
        clear hrel
        go_wp2_with (go_at_call 12; refine (ref_Wrap _ _ (by omega) (by omega)).mono ?_; rintro e w' ⟨rfl, rfl⟩)
        go_ret
        exact ⟨ret_int ((congrArg W63 (Int.zero_sub n)).symm.trans (mul_minus A B n hm hE.out)), rfl⟩
      · have hbt : (b != 0) = true := by simpa using hb
        have h0 := w63_lo (a + a)
        have h1 := w63_hi (a + a)
        have ea := w63_in a hx0 hx1
        have Ea := Lib.hid ea
        clear ea
        by_cases ho : b.tmod 2 = 0
        · have hot : (b.tmod 2 != 0) = false := by simpa using ho
          have HR := Lib.hid (hrel.trans (mul_even n a b ho).symm)
          have HL := Lib.hid (half_lt b hb)
          clear hrel ho
          go_wp2_with (go_at_call 12; refine (ref_Wrap _ _ (by omega) (by omega)).mono ?_; rintro e w' ⟨rfl, rfl⟩; try rw [Ea.out])
          go_round
          case rel => exact ⟨n, W63 (a + a), b.tdiv 2, rfl, rfl, rfl, ⟨hn0, hn1⟩, small63 _, ⟨half_lo b hy0, half_hi b hy1⟩, HR.out⟩
          case measure => exact HL.out
        · have hot : (b.tmod 2 != 0) = true := by simpa using ho
          have HR := Lib.hid (hrel.trans (mul_odd n a b ho).symm)
          have HL := Lib.hid (half_lt b hb)
          clear hrel ho
          go_wp2_with (go_at_call 12; refine (ref_Wrap _ _ (by omega) (by omega)).mono ?_; rintro e w' ⟨rfl, rfl⟩; try rw [Ea.out])
          go_round
          case rel => exact ⟨W63 (n + a), W63 (a + a), b.tdiv 2, rfl, rfl, rfl, small63 _, small63 _, ⟨half_lo b hy0, half_hi b hy1⟩, HR.out⟩
          case measure => exact HL.out
  · go_enter Tryd.func35, Tryd.ntmps35
    go_wp2_with fail
    go_loop [5, 0, 1] (fun s p q => ∃ n a b : Int, s = .int .i64 n ∧ p = .int .i64 a ∧ q = .int .i64 b ∧ Small63 n ∧ Small63 a ∧ Small63 b ∧ MulRel A B n a b) (fun _ _ q => (intOf q).natAbs)
    case atStart => exact ⟨0, A, B, rfl, rfl, rfl, by unfold Small63; omega, ⟨ha0, ha1⟩, ⟨hb0, hb1⟩, (mul_start A B).symm⟩
    case round =>
      obtain ⟨n, a, b, rfl, rfl, rfl, ⟨hn0, hn1⟩, ⟨hx0, hx1⟩, ⟨hy0, hy1⟩, hrel⟩ := hrel
      by_cases hb : b = 0
      · subst hb
        have hE := Lib.hid (hrel.trans (mul_end n a)).symm
        clear hrel
        go_wp2
        go_ret
        exact ⟨ret_int (mul_plus A B n (by omega) hn0 hn1 hE.out), rfl⟩
      · have hbt : (b != 0) = true := by simpa using hb
        have h0 := w63_lo (a + a)
        have h1 := w63_hi (a + a)
        have ea := w63_in a hx0 hx1
        have Ea := Lib.hid ea
        clear ea
        by_cases ho : b.tmod 2 = 0
        · have hot : (b.tmod 2 != 0) = false := by simpa using ho
          have HR := Lib.hid (hrel.trans (mul_even n a b ho).symm)
          have HL := Lib.hid (half_lt b hb)
          clear hrel ho
          go_wp2_with (go_at_call 12; refine (ref_Wrap _ _ (by omega) (by omega)).mono ?_; rintro e w' ⟨rfl, rfl⟩; try rw [Ea.out])
          go_round
          case rel => exact ⟨n, W63 (a + a), b.tdiv 2, rfl, rfl, rfl, ⟨hn0, hn1⟩, small63 _, ⟨half_lo b hy0, half_hi b hy1⟩, HR.out⟩
          case measure => exact HL.out
        · have hot : (b.tmod 2 != 0) = true := by simpa using ho
          have HR := Lib.hid (hrel.trans (mul_odd n a b ho).symm)
          have HL := Lib.hid (half_lt b hb)
          clear hrel ho
          go_wp2_with (go_at_call 12; refine (ref_Wrap _ _ (by omega) (by omega)).mono ?_; rintro e w' ⟨rfl, rfl⟩; try rw [Ea.out])
          go_round
          case rel => exact ⟨W63 (n + a), W63 (a + a), b.tdiv 2, rfl, rfl, rfl, small63 _, small63 _, ⟨half_lo b hy0, half_hi b hy1⟩, HR.out⟩
          case measure => exact HL.out
theorem wrap64_lo (n : Int) : -9223372036854775808 ≤ wrap64 n := by unfold wrap64; omega
theorem wrap64_hi (n : Int) : wrap64 n ≤ 9223372036854775807 := by unfold wrap64; omega
theorem two_of {op a b x y x' y' : Int} (w : World) (h : DoV op a b = (x, y)) (hx : x' = x) (hy : y' = y) : Two (DoV op a b).1 (DoV op a b).2 w (.returned (.tuple #[.int .i64 x', .int .i64 y'])) w := by
  rw [h]
  subst hx hy
  exact ⟨rfl, rfl⟩
set_option maxHeartbeats 1000000 in
theorem ref_Do_1 (a b : Int) (w : World) (ha : -9223372036854775808 ≤ a ∧ a ≤ 9223372036854775807) (hb : -9223372036854775808 ≤ b ∧ b ≤ 9223372036854775807) : Calls Tryd.prog 24 #[.int .i64 1, .int .i64 a, .int .i64 b] w (Two (DoV 1 a b).1 (DoV 1 a b).2 w) := by
  have hv : DoV 1 a b = (W63 (W63 a + W63 b), 0) := by
    simp [DoV]
  have Hv := Lib.hid hv
  clear hv
  obtain ⟨ha0, ha1⟩ := ha
  obtain ⟨hb0, hb1⟩ := hb
  have h1 := w63_lo a
  have h2 := w63_hi a
  have h3 := w63_lo b
  have h4 := w63_hi b
  go_enter Tryd.func24, Tryd.ntmps24
  go_wp2_with (first | (go_at_call 12; refine (ref_Wrap _ _ (by omega) (by omega)).mono ?_; rintro e w' ⟨rfl, rfl⟩) | (go_at_call 35; refine (ref_mul _ _ _ h1 h2 h3 h4).mono ?_; rintro e w' ⟨rfl, rfl⟩) | (go_at_call 36; refine (ref_truth _ _).mono ?_; rintro e w' ⟨rfl, rfl⟩))
  go_ret2
  exact two_of _ Hv.out rfl rfl
set_option maxHeartbeats 1000000 in
theorem ref_Do_2 (a b : Int) (w : World) (ha : -9223372036854775808 ≤ a ∧ a ≤ 9223372036854775807) (hb : -9223372036854775808 ≤ b ∧ b ≤ 9223372036854775807) : Calls Tryd.prog 24 #[.int .i64 2, .int .i64 a, .int .i64 b] w (Two (DoV 2 a b).1 (DoV 2 a b).2 w) := by
  have hv : DoV 2 a b = (W63 (W63 a - W63 b), 0) := by
    simp [DoV]
  have Hv := Lib.hid hv
  clear hv
  obtain ⟨ha0, ha1⟩ := ha
  obtain ⟨hb0, hb1⟩ := hb
  have h1 := w63_lo a
  have h2 := w63_hi a
  have h3 := w63_lo b
  have h4 := w63_hi b
  go_enter Tryd.func24, Tryd.ntmps24
  go_wp2_with (first | (go_at_call 12; refine (ref_Wrap _ _ (by omega) (by omega)).mono ?_; rintro e w' ⟨rfl, rfl⟩) | (go_at_call 35; refine (ref_mul _ _ _ h1 h2 h3 h4).mono ?_; rintro e w' ⟨rfl, rfl⟩) | (go_at_call 36; refine (ref_truth _ _).mono ?_; rintro e w' ⟨rfl, rfl⟩))
  go_ret2
  exact two_of _ Hv.out rfl rfl
set_option maxHeartbeats 1000000 in
theorem ref_Do_3 (a b : Int) (w : World) (ha : -9223372036854775808 ≤ a ∧ a ≤ 9223372036854775807) (hb : -9223372036854775808 ≤ b ∧ b ≤ 9223372036854775807) : Calls Tryd.prog 24 #[.int .i64 3, .int .i64 a, .int .i64 b] w (Two (DoV 3 a b).1 (DoV 3 a b).2 w) := by
  have hv : DoV 3 a b = (W63 (W63 a * W63 b), 0) := by
    simp [DoV]
  have Hv := Lib.hid hv
  clear hv
  obtain ⟨ha0, ha1⟩ := ha
  obtain ⟨hb0, hb1⟩ := hb
  have h1 := w63_lo a
  have h2 := w63_hi a
  have h3 := w63_lo b
  have h4 := w63_hi b
  go_enter Tryd.func24, Tryd.ntmps24
  go_wp2_with (first | (go_at_call 12; refine (ref_Wrap _ _ (by omega) (by omega)).mono ?_; rintro e w' ⟨rfl, rfl⟩) | (go_at_call 35; refine (ref_mul _ _ _ h1 h2 h3 h4).mono ?_; rintro e w' ⟨rfl, rfl⟩) | (go_at_call 36; refine (ref_truth _ _).mono ?_; rintro e w' ⟨rfl, rfl⟩))
  go_ret2
  exact two_of _ Hv.out rfl rfl
set_option maxHeartbeats 1000000 in
theorem ref_Do_4_zero (a b : Int) (w : World) (ha : -9223372036854775808 ≤ a ∧ a ≤ 9223372036854775807) (hb : -9223372036854775808 ≤ b ∧ b ≤ 9223372036854775807) (h : W63 b = 0) : Calls Tryd.prog 24 #[.int .i64 4, .int .i64 a, .int .i64 b] w (Two (DoV 4 a b).1 (DoV 4 a b).2 w) := by
  have hv : DoV 4 a b = (0, 2) := by
    simp [DoV, h]
  have Hv := Lib.hid hv
  clear hv
  obtain ⟨ha0, ha1⟩ := ha
  obtain ⟨hb0, hb1⟩ := hb
  have h1 := w63_lo a
  have h2 := w63_hi a
  have h3 := w63_lo b
  have h4 := w63_hi b
  go_enter Tryd.func24, Tryd.ntmps24
  go_wp2_with (first | (go_at_call 12; refine (ref_Wrap _ _ (by omega) (by omega)).mono ?_; rintro e w' ⟨rfl, rfl⟩) | (go_at_call 35; refine (ref_mul _ _ _ h1 h2 h3 h4).mono ?_; rintro e w' ⟨rfl, rfl⟩) | (go_at_call 36; refine (ref_truth _ _).mono ?_; rintro e w' ⟨rfl, rfl⟩))
  go_ret2
  exact two_of _ Hv.out rfl rfl
set_option maxHeartbeats 1000000 in
theorem ref_Do_5_zero (a b : Int) (w : World) (ha : -9223372036854775808 ≤ a ∧ a ≤ 9223372036854775807) (hb : -9223372036854775808 ≤ b ∧ b ≤ 9223372036854775807) (h : W63 b = 0) : Calls Tryd.prog 24 #[.int .i64 5, .int .i64 a, .int .i64 b] w (Two (DoV 5 a b).1 (DoV 5 a b).2 w) := by
  have hv : DoV 5 a b = (0, 2) := by
    simp [DoV, h]
  have Hv := Lib.hid hv
  clear hv
  obtain ⟨ha0, ha1⟩ := ha
  obtain ⟨hb0, hb1⟩ := hb
  have h1 := w63_lo a
  have h2 := w63_hi a
  have h3 := w63_lo b
  have h4 := w63_hi b
  go_enter Tryd.func24, Tryd.ntmps24
  go_wp2_with (first | (go_at_call 12; refine (ref_Wrap _ _ (by omega) (by omega)).mono ?_; rintro e w' ⟨rfl, rfl⟩) | (go_at_call 35; refine (ref_mul _ _ _ h1 h2 h3 h4).mono ?_; rintro e w' ⟨rfl, rfl⟩) | (go_at_call 36; refine (ref_truth _ _).mono ?_; rintro e w' ⟨rfl, rfl⟩))
  go_ret2
  exact two_of _ Hv.out rfl rfl
set_option maxHeartbeats 1000000 in
theorem ref_Do_4 (a b : Int) (w : World) (ha : -9223372036854775808 ≤ a ∧ a ≤ 9223372036854775807) (hb : -9223372036854775808 ≤ b ∧ b ≤ 9223372036854775807) (h : ¬ W63 b = 0) : Calls Tryd.prog 24 #[.int .i64 4, .int .i64 a, .int .i64 b] w (Two (DoV 4 a b).1 (DoV 4 a b).2 w) := by
  have hv : DoV 4 a b = (W63 ((W63 a).tdiv (W63 b)), 0) := by
    simp [DoV, h]
  have Hv := Lib.hid hv
  clear hv
  obtain ⟨ha0, ha1⟩ := ha
  obtain ⟨hb0, hb1⟩ := hb
  have h1 := w63_lo a
  have h2 := w63_hi a
  have h3 := w63_lo b
  have h4 := w63_hi b
  have hn : (W63 b == 0) = false := by simpa using h
  obtain ⟨q0, q1⟩ := tdiv_bound (W63 a) (W63 b) h1 h2
  go_enter Tryd.func24, Tryd.ntmps24
  go_wp2_with (first | (go_at_call 12; refine (ref_Wrap _ _ (by omega) (by omega)).mono ?_; rintro e w' ⟨rfl, rfl⟩) | (go_at_call 35; refine (ref_mul _ _ _ h1 h2 h3 h4).mono ?_; rintro e w' ⟨rfl, rfl⟩) | (go_at_call 36; refine (ref_truth _ _).mono ?_; rintro e w' ⟨rfl, rfl⟩))
  go_ret2
  exact two_of _ Hv.out rfl rfl
set_option maxHeartbeats 1000000 in
theorem ref_Do_5 (a b : Int) (w : World) (ha : -9223372036854775808 ≤ a ∧ a ≤ 9223372036854775807) (hb : -9223372036854775808 ≤ b ∧ b ≤ 9223372036854775807) (h : ¬ W63 b = 0) : Calls Tryd.prog 24 #[.int .i64 5, .int .i64 a, .int .i64 b] w (Two (DoV 5 a b).1 (DoV 5 a b).2 w) := by
  have hv : DoV 5 a b = (W63 ((W63 a).tmod (W63 b)), 0) := by
    simp [DoV, h]
  have Hv := Lib.hid hv
  clear hv
  obtain ⟨ha0, ha1⟩ := ha
  obtain ⟨hb0, hb1⟩ := hb
  have h1 := w63_lo a
  have h2 := w63_hi a
  have h3 := w63_lo b
  have h4 := w63_hi b
  have hn : (W63 b == 0) = false := by simpa using h
  obtain ⟨q0, q1⟩ := tdiv_bound (W63 a) (W63 b) h1 h2
  obtain ⟨p0, p1⟩ := tdiv_mul_bound (W63 a) (W63 b) h1 h2
  go_enter Tryd.func24, Tryd.ntmps24
  go_wp2_with (first | (go_at_call 12; refine (ref_Wrap _ _ (by omega) (by omega)).mono ?_; rintro e w' ⟨rfl, rfl⟩) | (go_at_call 35; refine (ref_mul _ _ _ h1 h2 h3 h4).mono ?_; rintro e w' ⟨rfl, rfl⟩) | (go_at_call 36; refine (ref_truth _ _).mono ?_; rintro e w' ⟨rfl, rfl⟩))
  go_ret2
  exact two_of _ Hv.out ((tmod_of _ _).trans (tmod_in _ _ h1 h2).symm) rfl
set_option maxHeartbeats 1000000 in
theorem ref_Do_6 (a b : Int) (w : World) (ha : -9223372036854775808 ≤ a ∧ a ≤ 9223372036854775807) (hb : -9223372036854775808 ≤ b ∧ b ≤ 9223372036854775807) : Calls Tryd.prog 24 #[.int .i64 6, .int .i64 a, .int .i64 b] w (Two (DoV 6 a b).1 (DoV 6 a b).2 w) := by
  have hv : DoV 6 a b = (W63 (- W63 a), 0) := by
    simp [DoV]
  have Hv := Lib.hid hv
  clear hv
  obtain ⟨ha0, ha1⟩ := ha
  obtain ⟨hb0, hb1⟩ := hb
  have h1 := w63_lo a
  have h2 := w63_hi a
  have h3 := w63_lo b
  have h4 := w63_hi b
  go_enter Tryd.func24, Tryd.ntmps24
  go_wp2_with (first | (go_at_call 12; refine (ref_Wrap _ _ (by omega) (by omega)).mono ?_; rintro e w' ⟨rfl, rfl⟩) | (go_at_call 35; refine (ref_mul _ _ _ h1 h2 h3 h4).mono ?_; rintro e w' ⟨rfl, rfl⟩) | (go_at_call 36; refine (ref_truth _ _).mono ?_; rintro e w' ⟨rfl, rfl⟩))
  go_ret2
  exact two_of _ Hv.out rfl rfl
set_option maxHeartbeats 1000000 in
theorem ref_Do_7_yes (a b : Int) (w : World) (ha : -9223372036854775808 ≤ a ∧ a ≤ 9223372036854775807) (hb : -9223372036854775808 ≤ b ∧ b ≤ 9223372036854775807) (h : (W63 a == W63 b) = true) : Calls Tryd.prog 24 #[.int .i64 7, .int .i64 a, .int .i64 b] w (Two (DoV 7 a b).1 (DoV 7 a b).2 w) := by
  have hv : DoV 7 a b = (1, 0) := by
    have h2 := h
    simp at h2
    simp [DoV, h2]
  have Hv := Lib.hid hv
  clear hv
  obtain ⟨ha0, ha1⟩ := ha
  obtain ⟨hb0, hb1⟩ := hb
  have h1 := w63_lo a
  have h2 := w63_hi a
  have h3 := w63_lo b
  have h4 := w63_hi b
  go_enter Tryd.func24, Tryd.ntmps24
  go_wp2_with (first | (go_at_call 12; refine (ref_Wrap _ _ (by omega) (by omega)).mono ?_; rintro e w' ⟨rfl, rfl⟩) | (go_at_call 35; refine (ref_mul _ _ _ h1 h2 h3 h4).mono ?_; rintro e w' ⟨rfl, rfl⟩) | (go_at_call 36; refine (ref_truth _ _).mono ?_; rintro e w' ⟨rfl, rfl⟩))
  go_ret2
  exact two_of _ Hv.out rfl rfl
set_option maxHeartbeats 1000000 in
theorem ref_Do_7_no (a b : Int) (w : World) (ha : -9223372036854775808 ≤ a ∧ a ≤ 9223372036854775807) (hb : -9223372036854775808 ≤ b ∧ b ≤ 9223372036854775807) (h : (W63 a == W63 b) = false) : Calls Tryd.prog 24 #[.int .i64 7, .int .i64 a, .int .i64 b] w (Two (DoV 7 a b).1 (DoV 7 a b).2 w) := by
  have hv : DoV 7 a b = (0, 0) := by
    have h2 := h
    simp at h2
    simp [DoV, h2]
  have Hv := Lib.hid hv
  clear hv
  obtain ⟨ha0, ha1⟩ := ha
  obtain ⟨hb0, hb1⟩ := hb
  have h1 := w63_lo a
  have h2 := w63_hi a
  have h3 := w63_lo b
  have h4 := w63_hi b
  go_enter Tryd.func24, Tryd.ntmps24
  go_wp2_with (first | (go_at_call 12; refine (ref_Wrap _ _ (by omega) (by omega)).mono ?_; rintro e w' ⟨rfl, rfl⟩) | (go_at_call 35; refine (ref_mul _ _ _ h1 h2 h3 h4).mono ?_; rintro e w' ⟨rfl, rfl⟩) | (go_at_call 36; refine (ref_truth _ _).mono ?_; rintro e w' ⟨rfl, rfl⟩))
  go_ret2
  exact two_of _ Hv.out rfl rfl
set_option maxHeartbeats 1000000 in
theorem ref_Do_8_yes (a b : Int) (w : World) (ha : -9223372036854775808 ≤ a ∧ a ≤ 9223372036854775807) (hb : -9223372036854775808 ≤ b ∧ b ≤ 9223372036854775807) (h : W63 a < W63 b) : Calls Tryd.prog 24 #[.int .i64 8, .int .i64 a, .int .i64 b] w (Two (DoV 8 a b).1 (DoV 8 a b).2 w) := by
  have hv : DoV 8 a b = (1, 0) := by
    simp [DoV, h]
  have Hv := Lib.hid hv
  clear hv
  obtain ⟨ha0, ha1⟩ := ha
  obtain ⟨hb0, hb1⟩ := hb
  have h1 := w63_lo a
  have h2 := w63_hi a
  have h3 := w63_lo b
  have h4 := w63_hi b
  go_enter Tryd.func24, Tryd.ntmps24
  go_wp2_with (first | (go_at_call 12; refine (ref_Wrap _ _ (by omega) (by omega)).mono ?_; rintro e w' ⟨rfl, rfl⟩) | (go_at_call 35; refine (ref_mul _ _ _ h1 h2 h3 h4).mono ?_; rintro e w' ⟨rfl, rfl⟩) | (go_at_call 36; refine (ref_truth _ _).mono ?_; rintro e w' ⟨rfl, rfl⟩))
  go_ret2
  exact two_of _ Hv.out rfl rfl
set_option maxHeartbeats 1000000 in
theorem ref_Do_8_no (a b : Int) (w : World) (ha : -9223372036854775808 ≤ a ∧ a ≤ 9223372036854775807) (hb : -9223372036854775808 ≤ b ∧ b ≤ 9223372036854775807) (h : ¬ W63 a < W63 b) : Calls Tryd.prog 24 #[.int .i64 8, .int .i64 a, .int .i64 b] w (Two (DoV 8 a b).1 (DoV 8 a b).2 w) := by
  have hv : DoV 8 a b = (0, 0) := by
    simp [DoV, h]
  have Hv := Lib.hid hv
  clear hv
  obtain ⟨ha0, ha1⟩ := ha
  obtain ⟨hb0, hb1⟩ := hb
  have h1 := w63_lo a
  have h2 := w63_hi a
  have h3 := w63_lo b
  have h4 := w63_hi b
  go_enter Tryd.func24, Tryd.ntmps24
  go_wp2_with (first | (go_at_call 12; refine (ref_Wrap _ _ (by omega) (by omega)).mono ?_; rintro e w' ⟨rfl, rfl⟩) | (go_at_call 35; refine (ref_mul _ _ _ h1 h2 h3 h4).mono ?_; rintro e w' ⟨rfl, rfl⟩) | (go_at_call 36; refine (ref_truth _ _).mono ?_; rintro e w' ⟨rfl, rfl⟩))
  go_ret2
  exact two_of _ Hv.out rfl rfl
set_option maxHeartbeats 1000000 in
theorem ref_Do_9_yes (a b : Int) (w : World) (ha : -9223372036854775808 ≤ a ∧ a ≤ 9223372036854775807) (hb : -9223372036854775808 ≤ b ∧ b ≤ 9223372036854775807) (h : (W63 a == 0) = true) : Calls Tryd.prog 24 #[.int .i64 9, .int .i64 a, .int .i64 b] w (Two (DoV 9 a b).1 (DoV 9 a b).2 w) := by
  have hv : DoV 9 a b = (1, 0) := by
    have h2 := h
    simp at h2
    simp [DoV, h2]
  have Hv := Lib.hid hv
  clear hv
  obtain ⟨ha0, ha1⟩ := ha
  obtain ⟨hb0, hb1⟩ := hb
  have h1 := w63_lo a
  have h2 := w63_hi a
  have h3 := w63_lo b
  have h4 := w63_hi b
  go_enter Tryd.func24, Tryd.ntmps24
  go_wp2_with (first | (go_at_call 12; refine (ref_Wrap _ _ (by omega) (by omega)).mono ?_; rintro e w' ⟨rfl, rfl⟩) | (go_at_call 35; refine (ref_mul _ _ _ h1 h2 h3 h4).mono ?_; rintro e w' ⟨rfl, rfl⟩) | (go_at_call 36; refine (ref_truth _ _).mono ?_; rintro e w' ⟨rfl, rfl⟩))
  go_ret2
  exact two_of _ Hv.out rfl rfl
set_option maxHeartbeats 1000000 in
theorem ref_Do_9_no (a b : Int) (w : World) (ha : -9223372036854775808 ≤ a ∧ a ≤ 9223372036854775807) (hb : -9223372036854775808 ≤ b ∧ b ≤ 9223372036854775807) (h : (W63 a == 0) = false) : Calls Tryd.prog 24 #[.int .i64 9, .int .i64 a, .int .i64 b] w (Two (DoV 9 a b).1 (DoV 9 a b).2 w) := by
  have hv : DoV 9 a b = (0, 0) := by
    have h2 := h
    simp at h2
    simp [DoV, h2]
  have Hv := Lib.hid hv
  clear hv
  obtain ⟨ha0, ha1⟩ := ha
  obtain ⟨hb0, hb1⟩ := hb
  have h1 := w63_lo a
  have h2 := w63_hi a
  have h3 := w63_lo b
  have h4 := w63_hi b
  go_enter Tryd.func24, Tryd.ntmps24
  go_wp2_with (first | (go_at_call 12; refine (ref_Wrap _ _ (by omega) (by omega)).mono ?_; rintro e w' ⟨rfl, rfl⟩) | (go_at_call 35; refine (ref_mul _ _ _ h1 h2 h3 h4).mono ?_; rintro e w' ⟨rfl, rfl⟩) | (go_at_call 36; refine (ref_truth _ _).mono ?_; rintro e w' ⟨rfl, rfl⟩))
  go_ret2
  exact two_of _ Hv.out rfl rfl
set_option maxHeartbeats 1000000 in
theorem ref_Do_other (op a b : Int) (w : World) (ha : -9223372036854775808 ≤ a ∧ a ≤ 9223372036854775807) (hb : -9223372036854775808 ≤ b ∧ b ≤ 9223372036854775807) (h : op < 1 ∨ 9 < op) : Calls Tryd.prog 24 #[.int .i64 op, .int .i64 a, .int .i64 b] w (Two (DoV op a b).1 (DoV op a b).2 w) := by
  have hv : DoV op a b = (0, 1) := by
    unfold DoV
    iterate 9 rw [if_neg (by omega)]
  have Hv := Lib.hid hv
  clear hv
  obtain ⟨ha0, ha1⟩ := ha
  obtain ⟨hb0, hb1⟩ := hb
  have h1 := w63_lo a
  have h2 := w63_hi a
  have h3 := w63_lo b
  have h4 := w63_hi b
  have n1 : (op == 1) = false := by rw [beq_eq_false_iff_ne]; omega
  have n2 : (op == 2) = false := by rw [beq_eq_false_iff_ne]; omega
  have n3 : (op == 3) = false := by rw [beq_eq_false_iff_ne]; omega
  have n4 : (op == 4) = false := by rw [beq_eq_false_iff_ne]; omega
  have n5 : (op == 5) = false := by rw [beq_eq_false_iff_ne]; omega
  have n6 : (op == 6) = false := by rw [beq_eq_false_iff_ne]; omega
  have n7 : (op == 7) = false := by rw [beq_eq_false_iff_ne]; omega
  have n8 : (op == 8) = false := by rw [beq_eq_false_iff_ne]; omega
  have n9 : (op == 9) = false := by rw [beq_eq_false_iff_ne]; omega
  clear h
  go_enter Tryd.func24, Tryd.ntmps24
  go_wp2_with (first | (go_at_call 12; refine (ref_Wrap _ _ (by omega) (by omega)).mono ?_; rintro e w' ⟨rfl, rfl⟩) | (go_at_call 35; refine (ref_mul _ _ _ h1 h2 h3 h4).mono ?_; rintro e w' ⟨rfl, rfl⟩) | (go_at_call 36; refine (ref_truth _ _).mono ?_; rintro e w' ⟨rfl, rfl⟩))
  go_ret2
  exact two_of _ Hv.out rfl rfl
theorem ref_Do (op a b : Int) (w : World) (ha : -9223372036854775808 ≤ a ∧ a ≤ 9223372036854775807) (hb : -9223372036854775808 ≤ b ∧ b ≤ 9223372036854775807) : Calls Tryd.prog 24 #[.int .i64 op, .int .i64 a, .int .i64 b] w (Two (DoV op a b).1 (DoV op a b).2 w) := by
  by_cases h : op < 1 ∨ 9 < op
  · exact ref_Do_other op a b w ha hb h
  · have hc : op = 1 ∨ op = 2 ∨ op = 3 ∨ op = 4 ∨ op = 5 ∨ op = 6 ∨ op = 7 ∨ op = 8 ∨ op = 9 := by omega
    rcases hc with rfl | rfl | rfl | rfl | rfl | rfl | rfl | rfl | rfl
    · exact ref_Do_1 a b w ha hb
    · exact ref_Do_2 a b w ha hb
    · exact ref_Do_3 a b w ha hb
    · by_cases hz : W63 b = 0
      · exact ref_Do_4_zero a b w ha hb hz
      · exact ref_Do_4 a b w ha hb hz
    · by_cases hz : W63 b = 0
      · exact ref_Do_5_zero a b w ha hb hz
      · exact ref_Do_5 a b w ha hb hz
    · exact ref_Do_6 a b w ha hb
    · by_cases hz : W63 a = W63 b
      · exact ref_Do_7_yes a b w ha hb (by simpa using hz)
      · exact ref_Do_7_no a b w ha hb (by simpa using hz)
    · by_cases hz : W63 a < W63 b
      · exact ref_Do_8_yes a b w ha hb hz
      · exact ref_Do_8_no a b w ha hb hz
    · by_cases hz : W63 a = 0
      · exact ref_Do_9_yes a b w ha hb (by simpa using hz)
      · exact ref_Do_9_no a b w ha hb (by simpa using hz)
end Go.Proofs.YtolifejbenpeoaaDoor
