/-
  The walks of the calls on numbers, words and addresses, of the program and of the reference.
-/
import Derived.Test.YthnefcodjkllgaaDoorRows
import Derived.Test.YthnefcodjkllgaaDoorMath
import Derived.WalkKit
import Derived.Lib.Hide
import Derived.MapKept
import Derived.Laws.BytesArg
import Derived.Lib.Builder
import Derived.WalkSpells
import Derived.WalkLawsBesides
namespace Go.Proofs.YthnefcodjkllgaaDoor
open Go.RowKit
theorem box_at (W : World) (o : Obj) (n : Nat) (hn : n = W.heap.size) : (W.alloc o).heap[n]? = some o := by
  subst hn
  exact (MapKept.heap_alloc W o).1
/-- Two numbers are returned, and the world stands. -/
def Two (x y : Int) (w : World) (e : Ending) (w' : World) : Prop := e = .returned (.tuple #[.int .i64 x, .int .i64 y]) ∧ w = w'
/-- A text is returned, and what was there stands. -/
def StrMade (l : List UInt8) (w : World) (e : Ending) (w' : World) : Prop := e = .returned (.string ⟨l.toArray⟩) ∧ Below w.heap.size w w'
theorem oneByte (w : World) (c : Int) (b : Nat) (hb : b = w.heap.size) : (convert 68 9 (.slice (some ⟨b, 0, none⟩) 1 1)).run Tryd.prog (w.alloc (.cells #[.int .u8 c] 5 (0, 0))) = .ok (.string ⟨[UInt8.ofNat c.toNat].toArray⟩) (w.alloc (.cells #[.int .u8 c] 5 (0, 0))) := by
  refine (run_convert_bytes_arg _ 68 5 Tryd.underlying68 Tryd.underlying5 b 0 1 1 [c] rfl ?_ 9 Tryd.underlying9)
  intro i hi
  obtain rfl : i = 0 := by omega
  exact Lib.cell_of_heap (box_at w _ b hb) 0
theorem twoBytes (w : World) (c d : Int) : (convert 68 9 (.slice (some ⟨w.heap.size, 0, none⟩) 2 2)).run Tryd.prog (w.alloc (.cells #[.int .u8 c, .int .u8 d] 5 (0, 0))).drew = .ok (.string ⟨[UInt8.ofNat c.toNat, UInt8.ofNat d.toNat].toArray⟩) (w.alloc (.cells #[.int .u8 c, .int .u8 d] 5 (0, 0))).drew := by
  refine (run_convert_bytes_arg _ 68 5 Tryd.underlying68 Tryd.underlying5 w.heap.size 0 2 2 [c, d] rfl ?_ 9 Tryd.underlying9)
  intro i hi
  rcases (by omega : i = 0 ∨ i = 1) with rfl | rfl
  · exact Lib.cell_of_heap (w := w.alloc (.cells #[.int .u8 c, .int .u8 d] 5 (0, 0))) (box_at w _ w.heap.size rfl) 0
  · exact Lib.cell_of_heap (w := w.alloc (.cells #[.int .u8 c, .int .u8 d] 5 (0, 0))) (box_at w _ w.heap.size rfl) 1
theorem ret_int {k : IntKind} {a b : Int} (h : a = b) : Ending.returned (.int k a) = .returned (.int k b) := by rw [h]
theorem ret_bool {a b : Bool} (h : a = b) : Ending.returned (.bool a) = .returned (.bool b) := by rw [h]
set_option maxHeartbeats 400000 in
theorem word_Wrap (n : Int) (w : World) : Calls Tryd.prog 35 #[.int .i64 n] w fun e w' => e = .returned (.int .i64 (W63 n)) ∧ w = w' := by
  go_enter Tryd.func35, Tryd.ntmps35
  go_wp2
  go_ret
  exact ⟨ret_int (w63_shl n), rfl⟩
set_option maxHeartbeats 400000 in
theorem word_Of (n : Int) (w : World) : Calls Tryd.prog 37 #[.int .i64 n] w fun e w' => e = .returned (.int .u64 (WOf n)) ∧ w = w' := by
  go_enter Tryd.func37, Tryd.ntmps37
  go_wp2
  go_ret
  exact ⟨ret_int (wof_bits n), rfl⟩
set_option maxHeartbeats 400000 in
theorem word_Num (n : Int) (w : World) (h0 : 0 ≤ n) (h1 : n ≤ 18446744073709551615) : Calls Tryd.prog 36 #[.int .u64 n] w fun e w' => e = .returned (.int .i64 (WNum n)) ∧ w = w' := by
  go_enter Tryd.func36, Tryd.ntmps36
  go_wp2
  go_ret
  exact ⟨ret_int (wnum_half n h0 h1), rfl⟩
set_option maxHeartbeats 400000 in
theorem word_IsNum (n : Int) (w : World) (h0 : 0 ≤ n) (h1 : n ≤ 18446744073709551615) : Calls Tryd.prog 38 #[.int .u64 n] w fun e w' => e = .returned (.bool (WIs n)) ∧ w = w' := by
  go_enter Tryd.func38, Tryd.ntmps38
  go_wp2
  go_ret
  exact ⟨ret_bool (wis_and n h0 h1), rfl⟩
set_option maxHeartbeats 400000 in
theorem word_Ref (a : Int) (w : World) : Calls Tryd.prog 39 #[.int .i64 a] w fun e w' => e = .returned (.int .u64 (WRef a)) ∧ w = w' := by
  by_cases h0 : a < 0
  · go_enter Tryd.func39, Tryd.ntmps39
    go_wp2
    go_ret
    exact ⟨ret_int (by unfold WRef; rw [if_pos (by omega)]), rfl⟩
  · by_cases h1 : 2147483647 < a
    · go_enter Tryd.func39, Tryd.ntmps39
      go_wp2
      go_ret
      exact ⟨ret_int (by unfold WRef; rw [if_pos (by omega)]), rfl⟩
    · go_enter Tryd.func39, Tryd.ntmps39
      go_wp2
      go_ret
      exact ⟨ret_int (by unfold WRef; rw [if_neg (by omega)]; omega), rfl⟩
set_option maxHeartbeats 400000 in
theorem word_Addr (n : Int) (w : World) (h0 : 0 ≤ n) (h1 : n ≤ 18446744073709551615) : Calls Tryd.prog 40 #[.int .u64 n] w fun e w' => e = .returned (.int .i64 (WAddr n)) ∧ w = w' := by
  by_cases h : n % 2 = 1
  · have hi : WIs n = true := by unfold WIs; simpa using h
    go_enter Tryd.func40, Tryd.ntmps40
    go_wp2_with fail
    refine (word_IsNum n _ h0 h1).mono ?_
    rintro e w' ⟨rfl, rfl⟩
    rw [hi]
    go_wp2
    go_ret
    exact ⟨ret_int (by unfold WAddr; rw [if_pos (by omega)]), rfl⟩
  · have hi : WIs n = false := by unfold WIs; simpa using h
    by_cases h2 : 2147483647 < n / 2
    · go_enter Tryd.func40, Tryd.ntmps40
      go_wp2_with fail
      refine (word_IsNum n _ h0 h1).mono ?_
      rintro e w' ⟨rfl, rfl⟩
      rw [hi]
      go_wp2
      go_ret
      exact ⟨ret_int (by unfold WAddr; rw [if_pos (by omega)]), rfl⟩
    · go_enter Tryd.func40, Tryd.ntmps40
      go_wp2_with fail
      refine (word_IsNum n _ h0 h1).mono ?_
      rintro e w' ⟨rfl, rfl⟩
      rw [hi]
      go_wp2
      go_ret
      exact ⟨ret_int (by unfold WAddr; rw [if_neg (by omega)]), rfl⟩
end Go.Proofs.YthnefcodjkllgaaDoor
