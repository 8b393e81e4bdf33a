/-
  The walk of Do: each operation on any two numbers is what the plain function DoV says; what was there before the call stands.
-/
import Derived.Test.YtolifejbenpeoaaDoorOps
namespace Go.Proofs.YtolifejbenpeoaaDoor
open Go.RowKit
def DoMade (op a b : Int) (w : World) (e : Ending) (w' : World) : Prop := e = .returned (.tuple #[.int .i64 (DoV op a b).1, .int .i64 (DoV op a b).2]) ∧ Below w.heap.size w w'
theorem doMade {op a b : Int} {w w' : World} {x y : Int} (h : DoV op a b = (x, y)) (hb : Below w.heap.size w w') : DoMade op a b w (.returned (.tuple #[.int .i64 x, .int .i64 y])) w' := by
  unfold DoMade
  rw [h]
  exact ⟨rfl, hb⟩
theorem zeroOp (w : World) : (zeroValue 50).run Tryd.prog w = .ok .nilFunc w := by kernel_rfl
theorem find_none (k : Int) (h : k < 1 ∨ 9 < k) (b1 b2 b3 b4 b5 b6 b7 b8 b9 : Nat) : findL k (opsTable b1 b2 b3 b4 b5 b6 b7 b8 b9) 0 = none := by
  unfold opsTable
  simp only [findL, entry, beq_iff_eq]
  iterate 9 rw [if_neg (by omega)]
set_option maxHeartbeats 400000 in
theorem word_Do_1 (a b : Int) (w : World) : Calls Tryd.prog 23 #[.int .i64 1, .int .i64 a, .int .i64 b] w (DoMade 1 a b w) := by
  have hv : DoV 1 a b = (W63 (W63 a + W63 b), 0) := by simp [DoV]
  have Hv := Lib.hid hv
  clear hv
  go_enter Tryd.func23, Tryd.ntmps23
  go_wp2_with fail
  refine (word_operations _).mono ?_
  rintro e w1 ⟨m, b1, b2, b3, b4, b5, b6, b7, b8, b9, rfl, hT, hB⟩
  have hl := table_lookup Tryd.underlying52 Tryd.underlying3 hT (zeroOp w1) 1
  have hf : findL 1 (opsTable b1 b2 b3 b4 b5 b6 b7 b8 b9) 0 = some (0, .func (.func 62) #[] #[.pointer (some ⟨b1, 0, none⟩)]) := rfl
  rw [hf] at hl
  have hc : w1.cell? ⟨b1, 0, none⟩ = some (.func (.func 47) #[] #[]) := by
    have := hT.2.2 (entry 1 62 b1 54 47) (by simp [opsTable])
    exact Lib.cell_of_heap this 0
  have HB := Lib.hid hB
  have HC := Lib.hid hc
  clear hT hf hB hc
  go_wp2_with (go_at_call 11; refine (word_Wrap _ _).mono ?_; rintro e w' ⟨rfl, rfl⟩)
  refine (clo_1 _ _ _ _ HC.out).mono ?_
  rintro e w' ⟨rfl, rfl⟩
  go_wp2
  go_ret2
  exact doMade Hv.out HB.out
set_option maxHeartbeats 400000 in
theorem word_Do_2 (a b : Int) (w : World) : Calls Tryd.prog 23 #[.int .i64 2, .int .i64 a, .int .i64 b] w (DoMade 2 a b w) := by
  have hv : DoV 2 a b = (W63 (W63 a - W63 b), 0) := by simp [DoV]
  have Hv := Lib.hid hv
  clear hv
  go_enter Tryd.func23, Tryd.ntmps23
  go_wp2_with fail
  refine (word_operations _).mono ?_
  rintro e w1 ⟨m, b1, b2, b3, b4, b5, b6, b7, b8, b9, rfl, hT, hB⟩
  have hl := table_lookup Tryd.underlying52 Tryd.underlying3 hT (zeroOp w1) 2
  have hf : findL 2 (opsTable b1 b2 b3 b4 b5 b6 b7 b8 b9) 0 = some (1, .func (.func 62) #[] #[.pointer (some ⟨b2, 0, none⟩)]) := rfl
  rw [hf] at hl
  have hc : w1.cell? ⟨b2, 0, none⟩ = some (.func (.func 48) #[] #[]) := by
    have := hT.2.2 (entry 2 62 b2 54 48) (by simp [opsTable])
    exact Lib.cell_of_heap this 0
  have HB := Lib.hid hB
  have HC := Lib.hid hc
  clear hT hf hB hc
  go_wp2_with (go_at_call 11; refine (word_Wrap _ _).mono ?_; rintro e w' ⟨rfl, rfl⟩)
  refine (clo_2 _ _ _ _ HC.out).mono ?_
  rintro e w' ⟨rfl, rfl⟩
  go_wp2
  go_ret2
  exact doMade Hv.out HB.out
set_option maxHeartbeats 400000 in
theorem word_Do_3 (a b : Int) (w : World) : Calls Tryd.prog 23 #[.int .i64 3, .int .i64 a, .int .i64 b] w (DoMade 3 a b w) := by
  have hv : DoV 3 a b = (W63 (W63 a * W63 b), 0) := by simp [DoV]
  have Hv := Lib.hid hv
  clear hv
  go_enter Tryd.func23, Tryd.ntmps23
  go_wp2_with fail
  refine (word_operations _).mono ?_
  rintro e w1 ⟨m, b1, b2, b3, b4, b5, b6, b7, b8, b9, rfl, hT, hB⟩
  have hl := table_lookup Tryd.underlying52 Tryd.underlying3 hT (zeroOp w1) 3
  have hf : findL 3 (opsTable b1 b2 b3 b4 b5 b6 b7 b8 b9) 0 = some (2, .func (.func 62) #[] #[.pointer (some ⟨b3, 0, none⟩)]) := rfl
  rw [hf] at hl
  have hc : w1.cell? ⟨b3, 0, none⟩ = some (.func (.func 49) #[] #[]) := by
    have := hT.2.2 (entry 3 62 b3 54 49) (by simp [opsTable])
    exact Lib.cell_of_heap this 0
  have HB := Lib.hid hB
  have HC := Lib.hid hc
  clear hT hf hB hc
  go_wp2_with (go_at_call 11; refine (word_Wrap _ _).mono ?_; rintro e w' ⟨rfl, rfl⟩)
  refine (clo_3 _ _ _ _ HC.out).mono ?_
  rintro e w' ⟨rfl, rfl⟩
  go_wp2
  go_ret2
  exact doMade Hv.out HB.out
set_option maxHeartbeats 400000 in
theorem word_Do_6 (a b : Int) (w : World) : Calls Tryd.prog 23 #[.int .i64 6, .int .i64 a, .int .i64 b] w (DoMade 6 a b w) := by
  have hv : DoV 6 a b = (W63 (- W63 a), 0) := by simp [DoV]
  have Hv := Lib.hid hv
  clear hv
  go_enter Tryd.func23, Tryd.ntmps23
  go_wp2_with fail
  refine (word_operations _).mono ?_
  rintro e w1 ⟨m, b1, b2, b3, b4, b5, b6, b7, b8, b9, rfl, hT, hB⟩
  have hl := table_lookup Tryd.underlying52 Tryd.underlying3 hT (zeroOp w1) 6
  have hf : findL 6 (opsTable b1 b2 b3 b4 b5 b6 b7 b8 b9) 0 = some (5, .func (.func 62) #[] #[.pointer (some ⟨b6, 0, none⟩)]) := rfl
  rw [hf] at hl
  have hc : w1.cell? ⟨b6, 0, none⟩ = some (.func (.func 53) #[] #[]) := by
    have := hT.2.2 (entry 6 62 b6 54 53) (by simp [opsTable])
    exact Lib.cell_of_heap this 0
  have HB := Lib.hid hB
  have HC := Lib.hid hc
  clear hT hf hB hc
  go_wp2_with (go_at_call 11; refine (word_Wrap _ _).mono ?_; rintro e w' ⟨rfl, rfl⟩)
  refine (clo_6 _ _ _ _ HC.out).mono ?_
  rintro e w' ⟨rfl, rfl⟩
  go_wp2
  go_ret2
  exact doMade Hv.out HB.out
set_option maxHeartbeats 400000 in
theorem word_Do_4_zero (a b : Int) (w : World) (h : W63 b = 0) : Calls Tryd.prog 23 #[.int .i64 4, .int .i64 a, .int .i64 b] w (DoMade 4 a b w) := by
  have hv : DoV 4 a b = (0, 2) := by simp [DoV, h]
  have Hv := Lib.hid hv
  clear hv
  go_enter Tryd.func23, Tryd.ntmps23
  go_wp2_with fail
  refine (word_operations _).mono ?_
  rintro e w1 ⟨m, b1, b2, b3, b4, b5, b6, b7, b8, b9, rfl, hT, hB⟩
  have hl := table_lookup Tryd.underlying52 Tryd.underlying3 hT (zeroOp w1) 4
  have hf : findL 4 (opsTable b1 b2 b3 b4 b5 b6 b7 b8 b9) 0 = some (3, .func (.func 63) #[] #[.pointer (some ⟨b4, 0, none⟩)]) := rfl
  rw [hf] at hl
  have hc : w1.cell? ⟨b4, 0, none⟩ = some (.func (.func 51) #[] #[]) := by
    have := hT.2.2 (entry 4 63 b4 54 51) (by simp [opsTable])
    exact Lib.cell_of_heap this 0
  have HB := Lib.hid hB
  clear hT hf hB hc
  go_wp2_with (go_at_call 11; refine (word_Wrap _ _).mono ?_; rintro e w' ⟨rfl, rfl⟩)
  refine (clo_4_zero _ _ _).mono ?_
  rintro e w' ⟨rfl, rfl⟩
  go_wp2
  go_ret2
  exact doMade Hv.out HB.out
set_option maxHeartbeats 400000 in
theorem word_Do_4 (a b : Int) (w : World) (h : (W63 b == 0) = false) : Calls Tryd.prog 23 #[.int .i64 4, .int .i64 a, .int .i64 b] w (DoMade 4 a b w) := by
  have hv : DoV 4 a b = (W63 ((W63 a).tdiv (W63 b)), 0) := by
    have h2 : ¬ W63 b = 0 := by simpa using h
    simp [DoV, h2]
  have Hv := Lib.hid hv
  clear hv
  go_enter Tryd.func23, Tryd.ntmps23
  go_wp2_with fail
  refine (word_operations _).mono ?_
  rintro e w1 ⟨m, b1, b2, b3, b4, b5, b6, b7, b8, b9, rfl, hT, hB⟩
  have hl := table_lookup Tryd.underlying52 Tryd.underlying3 hT (zeroOp w1) 4
  have hf : findL 4 (opsTable b1 b2 b3 b4 b5 b6 b7 b8 b9) 0 = some (3, .func (.func 63) #[] #[.pointer (some ⟨b4, 0, none⟩)]) := rfl
  rw [hf] at hl
  have hc : w1.cell? ⟨b4, 0, none⟩ = some (.func (.func 51) #[] #[]) := by
    have := hT.2.2 (entry 4 63 b4 54 51) (by simp [opsTable])
    exact Lib.cell_of_heap this 0
  have HB := Lib.hid hB
  have HC := Lib.hid hc
  clear hT hf hB hc
  go_wp2_with (go_at_call 11; refine (word_Wrap _ _).mono ?_; rintro e w' ⟨rfl, rfl⟩)
  refine (clo_4 _ _ _ _ h HC.out).mono ?_
  rintro e w' ⟨rfl, rfl⟩
  go_wp2
  go_ret2
  exact doMade Hv.out HB.out
set_option maxHeartbeats 400000 in
theorem word_Do_5_zero (a b : Int) (w : World) (h : W63 b = 0) : Calls Tryd.prog 23 #[.int .i64 5, .int .i64 a, .int .i64 b] w (DoMade 5 a b w) := by
  have hv : DoV 5 a b = (0, 2) := by simp [DoV, h]
  have Hv := Lib.hid hv
  clear hv
  go_enter Tryd.func23, Tryd.ntmps23
  go_wp2_with fail
  refine (word_operations _).mono ?_
  rintro e w1 ⟨m, b1, b2, b3, b4, b5, b6, b7, b8, b9, rfl, hT, hB⟩
  have hl := table_lookup Tryd.underlying52 Tryd.underlying3 hT (zeroOp w1) 5
  have hf : findL 5 (opsTable b1 b2 b3 b4 b5 b6 b7 b8 b9) 0 = some (4, .func (.func 63) #[] #[.pointer (some ⟨b5, 0, none⟩)]) := rfl
  rw [hf] at hl
  have hc : w1.cell? ⟨b5, 0, none⟩ = some (.func (.func 52) #[] #[]) := by
    have := hT.2.2 (entry 5 63 b5 54 52) (by simp [opsTable])
    exact Lib.cell_of_heap this 0
  have HB := Lib.hid hB
  clear hT hf hB hc
  go_wp2_with (go_at_call 11; refine (word_Wrap _ _).mono ?_; rintro e w' ⟨rfl, rfl⟩)
  refine (clo_5_zero _ _ _).mono ?_
  rintro e w' ⟨rfl, rfl⟩
  go_wp2
  go_ret2
  exact doMade Hv.out HB.out
set_option maxHeartbeats 400000 in
theorem word_Do_5 (a b : Int) (w : World) (h : (W63 b == 0) = false) : Calls Tryd.prog 23 #[.int .i64 5, .int .i64 a, .int .i64 b] w (DoMade 5 a b w) := by
  have hv : DoV 5 a b = (W63 ((W63 a).tmod (W63 b)), 0) := by
    have h2 : ¬ W63 b = 0 := by simpa using h
    simp [DoV, h2]
  have Hv := Lib.hid hv
  clear hv
  go_enter Tryd.func23, Tryd.ntmps23
  go_wp2_with fail
  refine (word_operations _).mono ?_
  rintro e w1 ⟨m, b1, b2, b3, b4, b5, b6, b7, b8, b9, rfl, hT, hB⟩
  have hl := table_lookup Tryd.underlying52 Tryd.underlying3 hT (zeroOp w1) 5
  have hf : findL 5 (opsTable b1 b2 b3 b4 b5 b6 b7 b8 b9) 0 = some (4, .func (.func 63) #[] #[.pointer (some ⟨b5, 0, none⟩)]) := rfl
  rw [hf] at hl
  have hc : w1.cell? ⟨b5, 0, none⟩ = some (.func (.func 52) #[] #[]) := by
    have := hT.2.2 (entry 5 63 b5 54 52) (by simp [opsTable])
    exact Lib.cell_of_heap this 0
  have HB := Lib.hid hB
  have HC := Lib.hid hc
  clear hT hf hB hc
  go_wp2_with (go_at_call 11; refine (word_Wrap _ _).mono ?_; rintro e w' ⟨rfl, rfl⟩)
  refine (clo_5 _ _ _ _ h HC.out).mono ?_
  rintro e w' ⟨rfl, rfl⟩
  go_wp2
  go_ret2
  exact doMade Hv.out HB.out
set_option maxHeartbeats 400000 in
theorem word_Do_7_yes (a b : Int) (w : World) (h : (W63 a == W63 b) = true) : Calls Tryd.prog 23 #[.int .i64 7, .int .i64 a, .int .i64 b] w (DoMade 7 a b w) := by
  have hv : DoV 7 a b = (1, 0) := by
    have h2 := h
    simp at h2
    simp [DoV, h2]
  have Hv := Lib.hid hv
  clear hv
  go_enter Tryd.func23, Tryd.ntmps23
  go_wp2_with fail
  refine (word_operations _).mono ?_
  rintro e w1 ⟨m, b1, b2, b3, b4, b5, b6, b7, b8, b9, rfl, hT, hB⟩
  have hl := table_lookup Tryd.underlying52 Tryd.underlying3 hT (zeroOp w1) 7
  have hf : findL 7 (opsTable b1 b2 b3 b4 b5 b6 b7 b8 b9) 0 = some (6, .func (.func 64) #[] #[.pointer (some ⟨b7, 0, none⟩)]) := rfl
  rw [hf] at hl
  have hc : w1.cell? ⟨b7, 0, none⟩ = some (.func (.func 55) #[] #[]) := by
    have := hT.2.2 (entry 7 64 b7 47 55) (by simp [opsTable])
    exact Lib.cell_of_heap this 0
  have HB := Lib.hid hB
  have HC := Lib.hid hc
  clear hT hf hB hc
  go_wp2_with (go_at_call 11; refine (word_Wrap _ _).mono ?_; rintro e w' ⟨rfl, rfl⟩)
  refine (clo_7_yes _ _ _ _ h HC.out).mono ?_
  rintro e w' ⟨rfl, rfl⟩
  go_wp2
  go_ret2
  exact doMade Hv.out HB.out
set_option maxHeartbeats 400000 in
theorem word_Do_7_no (a b : Int) (w : World) (h : (W63 a == W63 b) = false) : Calls Tryd.prog 23 #[.int .i64 7, .int .i64 a, .int .i64 b] w (DoMade 7 a b w) := by
  have hv : DoV 7 a b = (0, 0) := by
    have h2 := h
    simp at h2
    simp [DoV, h2]
  have Hv := Lib.hid hv
  clear hv
  go_enter Tryd.func23, Tryd.ntmps23
  go_wp2_with fail
  refine (word_operations _).mono ?_
  rintro e w1 ⟨m, b1, b2, b3, b4, b5, b6, b7, b8, b9, rfl, hT, hB⟩
  have hl := table_lookup Tryd.underlying52 Tryd.underlying3 hT (zeroOp w1) 7
  have hf : findL 7 (opsTable b1 b2 b3 b4 b5 b6 b7 b8 b9) 0 = some (6, .func (.func 64) #[] #[.pointer (some ⟨b7, 0, none⟩)]) := rfl
  rw [hf] at hl
  have hc : w1.cell? ⟨b7, 0, none⟩ = some (.func (.func 55) #[] #[]) := by
    have := hT.2.2 (entry 7 64 b7 47 55) (by simp [opsTable])
    exact Lib.cell_of_heap this 0
  have HB := Lib.hid hB
  have HC := Lib.hid hc
  clear hT hf hB hc
  go_wp2_with (go_at_call 11; refine (word_Wrap _ _).mono ?_; rintro e w' ⟨rfl, rfl⟩)
  refine (clo_7_no _ _ _ _ h HC.out).mono ?_
  rintro e w' ⟨rfl, rfl⟩
  go_wp2
  go_ret2
  exact doMade Hv.out HB.out
set_option maxHeartbeats 400000 in
theorem word_Do_8_yes (a b : Int) (w : World) (h : W63 a < W63 b) : Calls Tryd.prog 23 #[.int .i64 8, .int .i64 a, .int .i64 b] w (DoMade 8 a b w) := by
  have hv : DoV 8 a b = (1, 0) := by simp [DoV, h]
  have Hv := Lib.hid hv
  clear hv
  go_enter Tryd.func23, Tryd.ntmps23
  go_wp2_with fail
  refine (word_operations _).mono ?_
  rintro e w1 ⟨m, b1, b2, b3, b4, b5, b6, b7, b8, b9, rfl, hT, hB⟩
  have hl := table_lookup Tryd.underlying52 Tryd.underlying3 hT (zeroOp w1) 8
  have hf : findL 8 (opsTable b1 b2 b3 b4 b5 b6 b7 b8 b9) 0 = some (7, .func (.func 64) #[] #[.pointer (some ⟨b8, 0, none⟩)]) := rfl
  rw [hf] at hl
  have hc : w1.cell? ⟨b8, 0, none⟩ = some (.func (.func 56) #[] #[]) := by
    have := hT.2.2 (entry 8 64 b8 47 56) (by simp [opsTable])
    exact Lib.cell_of_heap this 0
  have HB := Lib.hid hB
  have HC := Lib.hid hc
  clear hT hf hB hc
  go_wp2_with (go_at_call 11; refine (word_Wrap _ _).mono ?_; rintro e w' ⟨rfl, rfl⟩)
  refine (clo_8_yes _ _ _ _ h HC.out).mono ?_
  rintro e w' ⟨rfl, rfl⟩
  go_wp2
  go_ret2
  exact doMade Hv.out HB.out
set_option maxHeartbeats 400000 in
theorem word_Do_8_no (a b : Int) (w : World) (h : ¬ W63 a < W63 b) : Calls Tryd.prog 23 #[.int .i64 8, .int .i64 a, .int .i64 b] w (DoMade 8 a b w) := by
  have hv : DoV 8 a b = (0, 0) := by simp [DoV, h]
  have Hv := Lib.hid hv
  clear hv
  go_enter Tryd.func23, Tryd.ntmps23
  go_wp2_with fail
  refine (word_operations _).mono ?_
  rintro e w1 ⟨m, b1, b2, b3, b4, b5, b6, b7, b8, b9, rfl, hT, hB⟩
  have hl := table_lookup Tryd.underlying52 Tryd.underlying3 hT (zeroOp w1) 8
  have hf : findL 8 (opsTable b1 b2 b3 b4 b5 b6 b7 b8 b9) 0 = some (7, .func (.func 64) #[] #[.pointer (some ⟨b8, 0, none⟩)]) := rfl
  rw [hf] at hl
  have hc : w1.cell? ⟨b8, 0, none⟩ = some (.func (.func 56) #[] #[]) := by
    have := hT.2.2 (entry 8 64 b8 47 56) (by simp [opsTable])
    exact Lib.cell_of_heap this 0
  have HB := Lib.hid hB
  have HC := Lib.hid hc
  clear hT hf hB hc
  go_wp2_with (go_at_call 11; refine (word_Wrap _ _).mono ?_; rintro e w' ⟨rfl, rfl⟩)
  refine (clo_8_no _ _ _ _ (by omega) HC.out).mono ?_
  rintro e w' ⟨rfl, rfl⟩
  go_wp2
  go_ret2
  exact doMade Hv.out HB.out
set_option maxHeartbeats 400000 in
theorem word_Do_9_yes (a b : Int) (w : World) (h : (W63 a == 0) = true) : Calls Tryd.prog 23 #[.int .i64 9, .int .i64 a, .int .i64 b] w (DoMade 9 a b w) := by
  have hv : DoV 9 a b = (1, 0) := by
    have h2 := h
    simp at h2
    simp [DoV, h2]
  have Hv := Lib.hid hv
  clear hv
  go_enter Tryd.func23, Tryd.ntmps23
  go_wp2_with fail
  refine (word_operations _).mono ?_
  rintro e w1 ⟨m, b1, b2, b3, b4, b5, b6, b7, b8, b9, rfl, hT, hB⟩
  have hl := table_lookup Tryd.underlying52 Tryd.underlying3 hT (zeroOp w1) 9
  have hf : findL 9 (opsTable b1 b2 b3 b4 b5 b6 b7 b8 b9) 0 = some (8, .func (.func 64) #[] #[.pointer (some ⟨b9, 0, none⟩)]) := rfl
  rw [hf] at hl
  have hc : w1.cell? ⟨b9, 0, none⟩ = some (.func (.func 57) #[] #[]) := by
    have := hT.2.2 (entry 9 64 b9 47 57) (by simp [opsTable])
    exact Lib.cell_of_heap this 0
  have HB := Lib.hid hB
  have HC := Lib.hid hc
  clear hT hf hB hc
  go_wp2_with (go_at_call 11; refine (word_Wrap _ _).mono ?_; rintro e w' ⟨rfl, rfl⟩)
  refine (clo_9_yes _ _ _ _ h HC.out).mono ?_
  rintro e w' ⟨rfl, rfl⟩
  go_wp2
  go_ret2
  exact doMade Hv.out HB.out
set_option maxHeartbeats 400000 in
theorem word_Do_9_no (a b : Int) (w : World) (h : (W63 a == 0) = false) : Calls Tryd.prog 23 #[.int .i64 9, .int .i64 a, .int .i64 b] w (DoMade 9 a b w) := by
  have hv : DoV 9 a b = (0, 0) := by
    have h2 := h
    simp at h2
    simp [DoV, h2]
  have Hv := Lib.hid hv
  clear hv
  go_enter Tryd.func23, Tryd.ntmps23
  go_wp2_with fail
  refine (word_operations _).mono ?_
  rintro e w1 ⟨m, b1, b2, b3, b4, b5, b6, b7, b8, b9, rfl, hT, hB⟩
  have hl := table_lookup Tryd.underlying52 Tryd.underlying3 hT (zeroOp w1) 9
  have hf : findL 9 (opsTable b1 b2 b3 b4 b5 b6 b7 b8 b9) 0 = some (8, .func (.func 64) #[] #[.pointer (some ⟨b9, 0, none⟩)]) := rfl
  rw [hf] at hl
  have hc : w1.cell? ⟨b9, 0, none⟩ = some (.func (.func 57) #[] #[]) := by
    have := hT.2.2 (entry 9 64 b9 47 57) (by simp [opsTable])
    exact Lib.cell_of_heap this 0
  have HB := Lib.hid hB
  have HC := Lib.hid hc
  clear hT hf hB hc
  go_wp2_with (go_at_call 11; refine (word_Wrap _ _).mono ?_; rintro e w' ⟨rfl, rfl⟩)
  refine (clo_9_no _ _ _ _ h HC.out).mono ?_
  rintro e w' ⟨rfl, rfl⟩
  go_wp2
  go_ret2
  exact doMade Hv.out HB.out
set_option maxHeartbeats 400000 in
theorem word_Do_other (op a b : Int) (w : World) (h : op < 1 ∨ 9 < op) : Calls Tryd.prog 23 #[.int .i64 op, .int .i64 a, .int .i64 b] w (DoMade op a b w) := by
  have hv : DoV op a b = (0, 1) := by
    unfold DoV
    iterate 9 rw [if_neg (by omega)]
  have Hv := Lib.hid hv
  have Hh := Lib.hid h
  clear hv h
  go_enter Tryd.func23, Tryd.ntmps23
  go_wp2_with fail
  refine (word_operations _).mono ?_
  rintro e w1 ⟨m, b1, b2, b3, b4, b5, b6, b7, b8, b9, rfl, hT, hB⟩
  have hl := table_lookup Tryd.underlying52 Tryd.underlying3 hT (zeroOp w1) op
  rw [find_none op Hh.out] at hl
  have HB := Lib.hid hB
  clear hT hB
  go_wp2
  go_ret2
  exact doMade Hv.out HB.out
theorem word_Do (op a b : Int) (w : World) : Calls Tryd.prog 23 #[.int .i64 op, .int .i64 a, .int .i64 b] w (DoMade op a b w) := by
  by_cases h : op < 1 ∨ 9 < op
  · exact word_Do_other op a b w h
  · have hc : op = 1 ∨ op = 2 ∨ op = 3 ∨ op = 4 ∨ op = 5 ∨ op = 6 ∨ op = 7 ∨ op = 8 ∨ op = 9 := by omega
    rcases hc with rfl | rfl | rfl | rfl | rfl | rfl | rfl | rfl | rfl
    · exact word_Do_1 a b w
    · exact word_Do_2 a b w
    · exact word_Do_3 a b w
    · by_cases hb : W63 b = 0
      · exact word_Do_4_zero a b w hb
      · exact word_Do_4 a b w (by simpa using hb)
    · by_cases hb : W63 b = 0
      · exact word_Do_5_zero a b w hb
      · exact word_Do_5 a b w (by simpa using hb)
    · exact word_Do_6 a b w
    · by_cases hb : W63 a = W63 b
      · exact word_Do_7_yes a b w (by simpa using hb)
      · exact word_Do_7_no a b w (by simpa using hb)
    · by_cases hb : W63 a < W63 b
      · exact word_Do_8_yes a b w hb
      · exact word_Do_8_no a b w hb
    · by_cases hb : W63 a = 0
      · exact word_Do_9_yes a b w (by simpa using hb)
      · exact word_Do_9_no a b w (by simpa using hb)
end Go.Proofs.YtolifejbenpeoaaDoor
