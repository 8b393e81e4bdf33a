/-
  The walks of the calls on numbers, words and addresses, of the program and of the reference.
-/
import Derived.Test.YtigbapkdpaahjaaDoorRows
import Derived.Test.YtigbapkdpaahjaaDoorMath
import Derived.WalkKit
import Derived.Lib.Hide
import Derived.MapKept
import Derived.Laws.BytesArg
import Derived.Lib.Builder
import Derived.WalkSpells
import Derived.WalkLawsBesides
namespace Go.Proofs.YtigbapkdpaahjaaDoor
open Go.RowKit
theorem box_at (W : World) (o : Obj) (n : Nat) (hn : n = W.heap.size) : (W.alloc o).heap[n]? = some o := by
  subst hn
  exact (MapKept.heap_alloc W o).1
/-- Two numbers are returned, and the world stands. -/
def Two (x y : Int) (w : World) (e : Ending) (w' : World) : Prop := e = .returned (.tuple #[.int .i64 x, .int .i64 y]) ∧ w = w'
/-- A text is returned, and what was there stands. -/
def StrMade (l : List UInt8) (w : World) (e : Ending) (w' : World) : Prop := e = .returned (.string ⟨l.toArray⟩) ∧ Below w.heap.size w w'
theorem oneByte (w : World) (c : Int) (b : Nat) (hb : b = w.heap.size) : (convert 32 9 (.slice (some ⟨b, 0, none⟩) 1 1)).run Tryd.prog (w.alloc (.cells #[.int .u8 c] 5 (0, 0))) = .ok (.string ⟨[UInt8.ofNat c.toNat].toArray⟩) (w.alloc (.cells #[.int .u8 c] 5 (0, 0))) := by
  refine (run_convert_bytes_arg _ 32 5 Tryd.underlying32 Tryd.underlying5 b 0 1 1 [c] rfl ?_ 9 Tryd.underlying9)
  intro i hi
  obtain rfl : i = 0 := by omega
  exact Lib.cell_of_heap (box_at w _ b hb) 0
theorem twoBytes (w : World) (c d : Int) : (convert 32 9 (.slice (some ⟨w.heap.size, 0, none⟩) 2 2)).run Tryd.prog (w.alloc (.cells #[.int .u8 c, .int .u8 d] 5 (0, 0))).drew = .ok (.string ⟨[UInt8.ofNat c.toNat, UInt8.ofNat d.toNat].toArray⟩) (w.alloc (.cells #[.int .u8 c, .int .u8 d] 5 (0, 0))).drew := by
  refine (run_convert_bytes_arg _ 32 5 Tryd.underlying32 Tryd.underlying5 w.heap.size 0 2 2 [c, d] rfl ?_ 9 Tryd.underlying9)
  intro i hi
  rcases (by omega : i = 0 ∨ i = 1) with rfl | rfl
  · exact Lib.cell_of_heap (w := w.alloc (.cells #[.int .u8 c, .int .u8 d] 5 (0, 0))) (box_at w _ w.heap.size rfl) 0
  · exact Lib.cell_of_heap (w := w.alloc (.cells #[.int .u8 c, .int .u8 d] 5 (0, 0))) (box_at w _ w.heap.size rfl) 1
theorem ret_int {k : IntKind} {a b : Int} (h : a = b) : Ending.returned (.int k a) = .returned (.int k b) := by rw [h]
theorem ret_bool {a b : Bool} (h : a = b) : Ending.returned (.bool a) = .returned (.bool b) := by rw [h]
end Go.Proofs.YtigbapkdpaahjaaDoor
