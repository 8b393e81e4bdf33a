/-
  The walks of the library's Clone at words, marks and runs, and of the heap's Copy.
-/
import Derived.Test.YtdkbgdjkdalalaaGreatDoorHNew
namespace Go.Proofs.YtdkbgdjkdalalaaGreatDoor
open Go.RowKit
/-- A row of words of one's own is returned; what was there stands. -/
def WordsMade (t : TypeId) (l : List Nat) (w : World) (e : Ending) (w' : World) : Prop :=
  ∃ g' k', e = .returned (.slice (some ⟨g', 0, none⟩) l.length k') ∧ Words w' t g' k' l ∧ Below w.heap.size w w' ∧ w.heap.size ≤ g'
def RunsNew (l : List (Nat × Nat)) (w : World) (e : Ending) (w' : World) : Prop :=
  ∃ g' k', e = .returned (.slice (some ⟨g', 0, none⟩) l.length k') ∧ Runs w' g' k' l ∧ Below w.heap.size w w' ∧ w.heap.size ≤ g'
theorem u64s_one (l : List Nat) : ∀ u ∈ u64s l, u.oneCell' = true := by
  intro u hu
  simp only [u64s, List.mem_map] at hu
  obtain ⟨x, _, rfl⟩ := hu
  rfl
theorem below_of_grown {w w' : World} {o : Obj} (h : (w.alloc o).grownBy w' (some w.heap.size)) : Below w.heap.size w w' :=
  ((Below.refl _ w).alloc (Nat.le_refl _) o).grown h (by simp) (fun k hk => by have := Option.some.inj hk; omega)
def CopyMade (n m : Nat) (cs ms : List Nat) (rs : List (Nat × Nat)) (w : World) (e : Ending) (w' : World) : Prop :=
  ∃ Y : Lay, e = .returned (.pointer (some ⟨Y.hb, 0, none⟩)) ∧ cs.length = n ∧ ms.length = m ∧ Mem w' Y cs ms rs ∧ Below w.heap.size w w' ∧ ∀ b, Y.own b → w.heap.size ≤ b
end Go.Proofs.YtdkbgdjkdalalaaGreatDoor
