/-
  The walk of the document's own answer's New.
-/
import Derived.Test.YtdkbgdjkdalalaaGreatDoorHRefSet
namespace Go.Proofs.YtdkbgdjkdalalaaGreatDoor
open Go.RowKit
theorem ref_New_nil (n : Int) (w : World) (h : n < 2 ∨ 65536 < n) :
    Calls Tryz.prog 30 #[.int .i64 n] w fun e w' => e = .returned (.pointer none) ∧ w = w' := by
  by_cases h1 : n < 2
  · have g0 : decide (n < 2) = true := by rw [decide_eq_true_iff]; omega
    go_enter Tryz.func30, Tryz.ntmps30
    go_wp2_with fail
    go_ret
    exact ⟨rfl, rfl⟩
  · have g0 : decide (n < 2) = false := by rw [decide_eq_false_iff_not]; omega
    have g1 : decide (65536 < n) = true := by rw [decide_eq_true_iff]; omega
    clear h
    go_enter Tryz.func30, Tryz.ntmps30
    go_wp2_with fail
    go_ret
    exact ⟨rfl, rfl⟩
/-- A heap of the document's own is made. -/
def RefMade (m : Nat) (w : World) (e : Ending) (w' : World) : Prop := ∃ r : Nat, e = .returned (.pointer (some ⟨r, 0, none⟩)) ∧ RefAt w' r (fun b => w.heap.size ≤ b) m [] ∧ Below w.heap.size w w'
theorem ref_New (m : Nat) (w : World) (h : 2 ≤ m ∧ m ≤ 65536) :
    Calls Tryz.prog 30 #[.int .i64 (m : Int)] w (RefMade m w) := by
  have g0 : decide ((m : Int) < 2) = false := by rw [decide_eq_false_iff_not]; omega
  have g1 : decide (65536 < (m : Int)) = false := by rw [decide_eq_false_iff_not]; omega
  clear h
  go_enter Tryz.func30, Tryz.ntmps30
  go_wp2_with fail
  go_ret
  refine ⟨w.heap.size, rfl, ⟨Nat.le_refl _, .slice none 0 0, [], rfl, heap_alloc_new w _, ⟨⟨World.ownsRow_nil _ _ _ _, fun g hg => by cases hg⟩, fun p hp => by cases hp⟩⟩, (Below.refl _ w).alloc (Nat.le_refl _) _⟩
end Go.Proofs.YtdkbgdjkdalalaaGreatDoor
