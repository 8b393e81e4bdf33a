/-
  The walks of the nine operations' closures, of the table that they lie in, and of Do: each operation on any two numbers is what the plain function DoV says; what was there before the call stands.
-/
import Derived.Test.YtolifejbenpeoaaDoorNums
import Derived.Test.YtolifejbenpeoaaDoorTable
import Derived.Maps.OwnOps
namespace Go.Proofs.YtolifejbenpeoaaDoor
open Go.RowKit
/-- What an operation on a and b answers, and its error. -/
def DoV (op a b : Int) : Int × Int :=
  if op = 1 then (W63 (W63 a + W63 b), 0)
  else if op = 2 then (W63 (W63 a - W63 b), 0)
  else if op = 3 then (W63 (W63 a * W63 b), 0)
  else if op = 4 then (if W63 b = 0 then (0, 2) else (W63 ((W63 a).tdiv (W63 b)), 0))
  else if op = 5 then (if W63 b = 0 then (0, 2) else (W63 ((W63 a).tmod (W63 b)), 0))
  else if op = 6 then (W63 (- W63 a), 0)
  else if op = 7 then (if W63 a = W63 b then 1 else 0, 0)
  else if op = 8 then (if W63 a < W63 b then 1 else 0, 0)
  else if op = 9 then (if W63 a = 0 then 1 else 0, 0)
  else (0, 1)
theorem ret_two {k l : IntKind} {a b c d : Int} (h : a = b) (h2 : c = d) : Ending.returned (.tuple #[.int k a, .int l c]) = .returned (.tuple #[.int k b, .int l d]) := by rw [h, h2]
theorem makeFunc (fn : Fn) (first cap : Array Value) (w : World) : (Instr.makeFunc fn first cap).run Tryd.prog w = .ok (.func fn first cap) w := rfl
def entry (k outer box ty inner : Nat) : Entry := ⟨k, outer, box, ty, inner⟩
set_option maxHeartbeats 400000 in
theorem word_total (g : Nat) (w : World) : Calls Tryd.prog 46 #[.func (.func g) #[] #[]] w fun e w' => e = .returned (.func (.func 62) #[] #[.pointer (some ⟨w.heap.size, 0, none⟩)]) ∧ w' = w.alloc (.cells #[.func (.func g) #[] #[]] 54 (0, 0)) := by
  have hmf := makeFunc
  go_enter Tryd.func46, Tryd.ntmps46
  go_wp2
  go_ret
  exact ⟨rfl, rfl⟩
set_option maxHeartbeats 400000 in
theorem word_dividing (g : Nat) (w : World) : Calls Tryd.prog 50 #[.func (.func g) #[] #[]] w fun e w' => e = .returned (.func (.func 63) #[] #[.pointer (some ⟨w.heap.size, 0, none⟩)]) ∧ w' = w.alloc (.cells #[.func (.func g) #[] #[]] 54 (0, 0)) := by
  have hmf := makeFunc
  go_enter Tryd.func50, Tryd.ntmps50
  go_wp2
  go_ret
  exact ⟨rfl, rfl⟩
set_option maxHeartbeats 400000 in
theorem word_asking (g : Nat) (w : World) : Calls Tryd.prog 54 #[.func (.func g) #[] #[]] w fun e w' => e = .returned (.func (.func 64) #[] #[.pointer (some ⟨w.heap.size, 0, none⟩)]) ∧ w' = w.alloc (.cells #[.func (.func g) #[] #[]] 47 (0, 0)) := by
  have hmf := makeFunc
  go_enter Tryd.func54, Tryd.ntmps54
  go_wp2
  go_ret
  exact ⟨rfl, rfl⟩
/-- The table, the captured variables at the blocks that b names. -/
def opsTable (b1 b2 b3 b4 b5 b6 b7 b8 b9 : Nat) : List Entry := [entry 1 62 b1 54 47, entry 2 62 b2 54 48, entry 3 62 b3 54 49, entry 4 63 b4 54 51, entry 5 63 b5 54 52, entry 6 62 b6 54 53, entry 7 64 b7 47 55, entry 8 64 b8 47 56, entry 9 64 b9 47 57]
def OpsMade (w : World) (e : Ending) (w' : World) : Prop := ∃ m b1 b2 b3 b4 b5 b6 b7 b8 b9, e = .returned (.map (some m)) ∧ TableAt w.heap.size m (opsTable b1 b2 b3 b4 b5 b6 b7 b8 b9) w' ∧ Below w.heap.size w w'
set_option maxHeartbeats 1000000 in
theorem word_operations (w : World) : Calls Tryd.prog 34 #[] w (OpsMade w) := by
  have hmm := @run_makeMap Tryd.prog
  have hT0 := Lib.hid (TableAt.made w w.heap.size (Nat.le_refl _))
  have hB0 := Lib.hid ((Below.refl w.heap.size w).alloc (Nat.le_refl _) (.map #[] 0))
  go_enter Tryd.func34, Tryd.ntmps34
  go_wp2_with fail
  refine (word_total 47 _).mono ?_
  rintro e w1' ⟨rfl, rfl⟩
  have hA1 := hT0.out.alloc (.cells #[.func (.func 47) #[] #[]] 54 (0, 0))
  have hC1 := Lib.hid (hB0.out.alloc (by have := hB0.out.size; omega) (.cells #[.func (.func 47) #[] #[]] 54 (0, 0)))
  go_wp2_with (refine wpList_table_insert _ rfl (.tmp 1) (.const (.int .i64 1)) (.tmp 2) 52 rfl 3 50 Tryd.underlying52 Tryd.underlying3 w.heap.size w.heap.size _ (entry 1 62 _ 54 47) rfl rfl rfl hA1 (box_at _ _ _ (by simp [entry])) rfl ?_)
  intro w1 hT hB
  have hT1 := Lib.hid hT
  have hB1 := Lib.hid (hC1.out.trans hB)
  clear hT hB hA1 hC1 hT0 hB0
  go_wp2_with fail
  refine (word_total 48 _).mono ?_
  rintro e w2' ⟨rfl, rfl⟩
  have hA2 := hT1.out.alloc (.cells #[.func (.func 48) #[] #[]] 54 (0, 0))
  have hC2 := Lib.hid (hB1.out.alloc (by have := hB1.out.size; omega) (.cells #[.func (.func 48) #[] #[]] 54 (0, 0)))
  go_wp2_with (refine wpList_table_insert _ rfl (.tmp 1) (.const (.int .i64 2)) (.tmp 3) 52 rfl 3 50 Tryd.underlying52 Tryd.underlying3 w.heap.size w.heap.size _ (entry 2 62 _ 54 48) rfl rfl rfl hA2 (box_at _ _ _ (by simp [entry])) rfl ?_)
  intro w2 hT hB
  have hT2 := Lib.hid hT
  have hB2 := Lib.hid (hC2.out.trans hB)
  clear hT hB hA2 hC2 hT1 hB1
  go_wp2_with fail
  refine (word_total 49 _).mono ?_
  rintro e w3' ⟨rfl, rfl⟩
  have hA3 := hT2.out.alloc (.cells #[.func (.func 49) #[] #[]] 54 (0, 0))
  have hC3 := Lib.hid (hB2.out.alloc (by have := hB2.out.size; omega) (.cells #[.func (.func 49) #[] #[]] 54 (0, 0)))
  go_wp2_with (refine wpList_table_insert _ rfl (.tmp 1) (.const (.int .i64 3)) (.tmp 4) 52 rfl 3 50 Tryd.underlying52 Tryd.underlying3 w.heap.size w.heap.size _ (entry 3 62 _ 54 49) rfl rfl rfl hA3 (box_at _ _ _ (by simp [entry])) rfl ?_)
  intro w3 hT hB
  have hT3 := Lib.hid hT
  have hB3 := Lib.hid (hC3.out.trans hB)
  clear hT hB hA3 hC3 hT2 hB2
  go_wp2_with fail
  refine (word_dividing 51 _).mono ?_
  rintro e w4' ⟨rfl, rfl⟩
  have hA4 := hT3.out.alloc (.cells #[.func (.func 51) #[] #[]] 54 (0, 0))
  have hC4 := Lib.hid (hB3.out.alloc (by have := hB3.out.size; omega) (.cells #[.func (.func 51) #[] #[]] 54 (0, 0)))
  go_wp2_with (refine wpList_table_insert _ rfl (.tmp 1) (.const (.int .i64 4)) (.tmp 5) 52 rfl 3 50 Tryd.underlying52 Tryd.underlying3 w.heap.size w.heap.size _ (entry 4 63 _ 54 51) rfl rfl rfl hA4 (box_at _ _ _ (by simp [entry])) rfl ?_)
  intro w4 hT hB
  have hT4 := Lib.hid hT
  have hB4 := Lib.hid (hC4.out.trans hB)
  clear hT hB hA4 hC4 hT3 hB3
  go_wp2_with fail
  refine (word_dividing 52 _).mono ?_
  rintro e w5' ⟨rfl, rfl⟩
  have hA5 := hT4.out.alloc (.cells #[.func (.func 52) #[] #[]] 54 (0, 0))
  have hC5 := Lib.hid (hB4.out.alloc (by have := hB4.out.size; omega) (.cells #[.func (.func 52) #[] #[]] 54 (0, 0)))
  go_wp2_with (refine wpList_table_insert _ rfl (.tmp 1) (.const (.int .i64 5)) (.tmp 6) 52 rfl 3 50 Tryd.underlying52 Tryd.underlying3 w.heap.size w.heap.size _ (entry 5 63 _ 54 52) rfl rfl rfl hA5 (box_at _ _ _ (by simp [entry])) rfl ?_)
  intro w5 hT hB
  have hT5 := Lib.hid hT
  have hB5 := Lib.hid (hC5.out.trans hB)
  clear hT hB hA5 hC5 hT4 hB4
  go_wp2_with fail
  refine (word_total 53 _).mono ?_
  rintro e w6' ⟨rfl, rfl⟩
  have hA6 := hT5.out.alloc (.cells #[.func (.func 53) #[] #[]] 54 (0, 0))
  have hC6 := Lib.hid (hB5.out.alloc (by have := hB5.out.size; omega) (.cells #[.func (.func 53) #[] #[]] 54 (0, 0)))
  go_wp2_with (refine wpList_table_insert _ rfl (.tmp 1) (.const (.int .i64 6)) (.tmp 7) 52 rfl 3 50 Tryd.underlying52 Tryd.underlying3 w.heap.size w.heap.size _ (entry 6 62 _ 54 53) rfl rfl rfl hA6 (box_at _ _ _ (by simp [entry])) rfl ?_)
  intro w6 hT hB
  have hT6 := Lib.hid hT
  have hB6 := Lib.hid (hC6.out.trans hB)
  clear hT hB hA6 hC6 hT5 hB5
  go_wp2_with fail
  refine (word_asking 55 _).mono ?_
  rintro e w7' ⟨rfl, rfl⟩
  have hA7 := hT6.out.alloc (.cells #[.func (.func 55) #[] #[]] 47 (0, 0))
  have hC7 := Lib.hid (hB6.out.alloc (by have := hB6.out.size; omega) (.cells #[.func (.func 55) #[] #[]] 47 (0, 0)))
  go_wp2_with (refine wpList_table_insert _ rfl (.tmp 1) (.const (.int .i64 7)) (.tmp 8) 52 rfl 3 50 Tryd.underlying52 Tryd.underlying3 w.heap.size w.heap.size _ (entry 7 64 _ 47 55) rfl rfl rfl hA7 (box_at _ _ _ (by simp [entry])) rfl ?_)
  intro w7 hT hB
  have hT7 := Lib.hid hT
  have hB7 := Lib.hid (hC7.out.trans hB)
  clear hT hB hA7 hC7 hT6 hB6
  go_wp2_with fail
  refine (word_asking 56 _).mono ?_
  rintro e w8' ⟨rfl, rfl⟩
  have hA8 := hT7.out.alloc (.cells #[.func (.func 56) #[] #[]] 47 (0, 0))
  have hC8 := Lib.hid (hB7.out.alloc (by have := hB7.out.size; omega) (.cells #[.func (.func 56) #[] #[]] 47 (0, 0)))
  go_wp2_with (refine wpList_table_insert _ rfl (.tmp 1) (.const (.int .i64 8)) (.tmp 9) 52 rfl 3 50 Tryd.underlying52 Tryd.underlying3 w.heap.size w.heap.size _ (entry 8 64 _ 47 56) rfl rfl rfl hA8 (box_at _ _ _ (by simp [entry])) rfl ?_)
  intro w8 hT hB
  have hT8 := Lib.hid hT
  have hB8 := Lib.hid (hC8.out.trans hB)
  clear hT hB hA8 hC8 hT7 hB7
  go_wp2_with fail
  refine (word_asking 57 _).mono ?_
  rintro e w9' ⟨rfl, rfl⟩
  have hA9 := hT8.out.alloc (.cells #[.func (.func 57) #[] #[]] 47 (0, 0))
  have hC9 := Lib.hid (hB8.out.alloc (by have := hB8.out.size; omega) (.cells #[.func (.func 57) #[] #[]] 47 (0, 0)))
  go_wp2_with (refine wpList_table_insert _ rfl (.tmp 1) (.const (.int .i64 9)) (.tmp 10) 52 rfl 3 50 Tryd.underlying52 Tryd.underlying3 w.heap.size w.heap.size _ (entry 9 64 _ 47 57) rfl rfl rfl hA9 (box_at _ _ _ (by simp [entry])) rfl ?_)
  intro w9 hT hB
  have hT9 := Lib.hid hT
  have hB9 := Lib.hid (hC9.out.trans hB)
  clear hT hB hA9 hC9 hT8 hB8
  go_wp2
  go_ret
  exact ⟨_, _, _, _, _, _, _, _, _, _, rfl, hT9.out, hB9.out⟩
set_option maxHeartbeats 400000 in
theorem clo_1 (a b : Int) (p : Nat) (w : World) (hc : w.cell? ⟨p, 0, none⟩ = some (.func (.func 47) #[] #[])) :
    Calls Tryd.prog 62 #[.int .i64 a, .int .i64 b, .pointer (some ⟨p, 0, none⟩)] w fun e w' => e = .returned (.tuple #[.int .i64 (W63 (a + b)), .int .i64 0]) ∧ w = w' := by
  go_enter Tryd.func62, Tryd.ntmps62
  go_wp2_with (first | (go_at_call 11; refine (word_Wrap _ _).mono ?_; rintro e w' ⟨rfl, rfl⟩) | go_in)
  go_ret2
  exact ⟨ret_two (w63_wrap64 _) rfl, rfl⟩
set_option maxHeartbeats 400000 in
theorem clo_2 (a b : Int) (p : Nat) (w : World) (hc : w.cell? ⟨p, 0, none⟩ = some (.func (.func 48) #[] #[])) :
    Calls Tryd.prog 62 #[.int .i64 a, .int .i64 b, .pointer (some ⟨p, 0, none⟩)] w fun e w' => e = .returned (.tuple #[.int .i64 (W63 (a - b)), .int .i64 0]) ∧ w = w' := by
  go_enter Tryd.func62, Tryd.ntmps62
  go_wp2_with (first | (go_at_call 11; refine (word_Wrap _ _).mono ?_; rintro e w' ⟨rfl, rfl⟩) | go_in)
  go_ret2
  exact ⟨ret_two (w63_wrap64 _) rfl, rfl⟩
set_option maxHeartbeats 400000 in
theorem clo_3 (a b : Int) (p : Nat) (w : World) (hc : w.cell? ⟨p, 0, none⟩ = some (.func (.func 49) #[] #[])) :
    Calls Tryd.prog 62 #[.int .i64 a, .int .i64 b, .pointer (some ⟨p, 0, none⟩)] w fun e w' => e = .returned (.tuple #[.int .i64 (W63 (a * b)), .int .i64 0]) ∧ w = w' := by
  go_enter Tryd.func62, Tryd.ntmps62
  go_wp2_with (first | (go_at_call 11; refine (word_Wrap _ _).mono ?_; rintro e w' ⟨rfl, rfl⟩) | go_in)
  go_ret2
  exact ⟨ret_two (w63_wrap64 _) rfl, rfl⟩
set_option maxHeartbeats 400000 in
theorem clo_6 (a b : Int) (p : Nat) (w : World) (hc : w.cell? ⟨p, 0, none⟩ = some (.func (.func 53) #[] #[])) :
    Calls Tryd.prog 62 #[.int .i64 a, .int .i64 b, .pointer (some ⟨p, 0, none⟩)] w fun e w' => e = .returned (.tuple #[.int .i64 (W63 (- a)), .int .i64 0]) ∧ w = w' := by
  go_enter Tryd.func62, Tryd.ntmps62
  go_wp2_with (first | (go_at_call 11; refine (word_Wrap _ _).mono ?_; rintro e w' ⟨rfl, rfl⟩) | go_in)
  go_ret2
  exact ⟨ret_two (w63_wrap64 _) rfl, rfl⟩
set_option maxHeartbeats 400000 in
theorem clo_4_zero (a : Int) (p : Nat) (w : World) :
    Calls Tryd.prog 63 #[.int .i64 a, .int .i64 0, .pointer (some ⟨p, 0, none⟩)] w fun e w' => e = .returned (.tuple #[.int .i64 0, .int .i64 2]) ∧ w = w' := by
  go_enter Tryd.func63, Tryd.ntmps63
  go_wp2
  go_ret2
  exact ⟨rfl, rfl⟩
set_option maxHeartbeats 400000 in
theorem clo_4 (a b : Int) (p : Nat) (w : World) (hb : (b == 0) = false) (hc : w.cell? ⟨p, 0, none⟩ = some (.func (.func 51) #[] #[])) :
    Calls Tryd.prog 63 #[.int .i64 a, .int .i64 b, .pointer (some ⟨p, 0, none⟩)] w fun e w' => e = .returned (.tuple #[.int .i64 (W63 (a.tdiv b)), .int .i64 0]) ∧ w = w' := by
  have hb2 : ¬ b = 0 := by simpa using hb
  go_enter Tryd.func63, Tryd.ntmps63
  go_wp2_with (first | (go_at_call 11; refine (word_Wrap _ _).mono ?_; rintro e w' ⟨rfl, rfl⟩) | go_in)
  go_ret2
  first | exact ⟨ret_two (w63_wrap64 _) rfl, rfl⟩ | exact ⟨rfl, rfl⟩
set_option maxHeartbeats 400000 in
theorem clo_5_zero (a : Int) (p : Nat) (w : World) :
    Calls Tryd.prog 63 #[.int .i64 a, .int .i64 0, .pointer (some ⟨p, 0, none⟩)] w fun e w' => e = .returned (.tuple #[.int .i64 0, .int .i64 2]) ∧ w = w' := by
  go_enter Tryd.func63, Tryd.ntmps63
  go_wp2
  go_ret2
  exact ⟨rfl, rfl⟩
set_option maxHeartbeats 400000 in
theorem clo_5 (a b : Int) (p : Nat) (w : World) (hb : (b == 0) = false) (hc : w.cell? ⟨p, 0, none⟩ = some (.func (.func 52) #[] #[])) :
    Calls Tryd.prog 63 #[.int .i64 a, .int .i64 b, .pointer (some ⟨p, 0, none⟩)] w fun e w' => e = .returned (.tuple #[.int .i64 (W63 (a.tmod b)), .int .i64 0]) ∧ w = w' := by
  have hb2 : ¬ b = 0 := by simpa using hb
  go_enter Tryd.func63, Tryd.ntmps63
  go_wp2_with (first | (go_at_call 11; refine (word_Wrap _ _).mono ?_; rintro e w' ⟨rfl, rfl⟩) | go_in)
  go_ret2
  first | exact ⟨ret_two (w63_wrap64 _) rfl, rfl⟩ | exact ⟨rfl, rfl⟩
set_option maxHeartbeats 400000 in
theorem clo_7_yes (a b : Int) (p : Nat) (w : World) (h : (a == b) = true) (hc : w.cell? ⟨p, 0, none⟩ = some (.func (.func 55) #[] #[])) :
    Calls Tryd.prog 64 #[.int .i64 a, .int .i64 b, .pointer (some ⟨p, 0, none⟩)] w fun e w' => e = .returned (.tuple #[.int .i64 1, .int .i64 0]) ∧ w = w' := by
  go_enter Tryd.func64, Tryd.ntmps64
  go_wp2
  go_ret2
  exact ⟨rfl, rfl⟩
set_option maxHeartbeats 400000 in
theorem clo_7_no (a b : Int) (p : Nat) (w : World) (h : (a == b) = false) (hc : w.cell? ⟨p, 0, none⟩ = some (.func (.func 55) #[] #[])) :
    Calls Tryd.prog 64 #[.int .i64 a, .int .i64 b, .pointer (some ⟨p, 0, none⟩)] w fun e w' => e = .returned (.tuple #[.int .i64 0, .int .i64 0]) ∧ w = w' := by
  go_enter Tryd.func64, Tryd.ntmps64
  go_wp2
  go_ret2
  exact ⟨rfl, rfl⟩
set_option maxHeartbeats 400000 in
theorem clo_8_yes (a b : Int) (p : Nat) (w : World) (h : a < b) (hc : w.cell? ⟨p, 0, none⟩ = some (.func (.func 56) #[] #[])) :
    Calls Tryd.prog 64 #[.int .i64 a, .int .i64 b, .pointer (some ⟨p, 0, none⟩)] w fun e w' => e = .returned (.tuple #[.int .i64 1, .int .i64 0]) ∧ w = w' := by
  go_enter Tryd.func64, Tryd.ntmps64
  go_wp2
  go_ret2
  exact ⟨rfl, rfl⟩
set_option maxHeartbeats 400000 in
theorem clo_8_no (a b : Int) (p : Nat) (w : World) (h : ¬ a < b) (hc : w.cell? ⟨p, 0, none⟩ = some (.func (.func 56) #[] #[])) :
    Calls Tryd.prog 64 #[.int .i64 a, .int .i64 b, .pointer (some ⟨p, 0, none⟩)] w fun e w' => e = .returned (.tuple #[.int .i64 0, .int .i64 0]) ∧ w = w' := by
  go_enter Tryd.func64, Tryd.ntmps64
  go_wp2
  go_ret2
  exact ⟨rfl, rfl⟩
set_option maxHeartbeats 400000 in
theorem clo_9_yes (a b : Int) (p : Nat) (w : World) (h : (a == 0) = true) (hc : w.cell? ⟨p, 0, none⟩ = some (.func (.func 57) #[] #[])) :
    Calls Tryd.prog 64 #[.int .i64 a, .int .i64 b, .pointer (some ⟨p, 0, none⟩)] w fun e w' => e = .returned (.tuple #[.int .i64 1, .int .i64 0]) ∧ w = w' := by
  go_enter Tryd.func64, Tryd.ntmps64
  go_wp2
  go_ret2
  exact ⟨rfl, rfl⟩
set_option maxHeartbeats 400000 in
theorem clo_9_no (a b : Int) (p : Nat) (w : World) (h : (a == 0) = false) (hc : w.cell? ⟨p, 0, none⟩ = some (.func (.func 57) #[] #[])) :
    Calls Tryd.prog 64 #[.int .i64 a, .int .i64 b, .pointer (some ⟨p, 0, none⟩)] w fun e w' => e = .returned (.tuple #[.int .i64 0, .int .i64 0]) ∧ w = w' := by
  go_enter Tryd.func64, Tryd.ntmps64
  go_wp2
  go_ret2
  exact ⟨rfl, rfl⟩
end Go.Proofs.YtolifejbenpeoaaDoor
