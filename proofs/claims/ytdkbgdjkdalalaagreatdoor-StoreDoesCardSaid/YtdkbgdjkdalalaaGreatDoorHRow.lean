/-
  What the rows' proofs of stage 2 share: the listed table's condition holds in the heap that the program's own start leaves, and gives the walks the table that they read; a script as it was handed in is one that the walks read.
-/
import Derived.Test.YtdkbgdjkdalalaaGreatDoorRows
import Derived.Test.YtdkbgdjkdalalaaGreatDoorHFits
import Derived.ProofKit
import Derived.LaidMore
import Derived.OpenShut
import Derived.Stop.Joined
import Derived.Stop.LaidErr
import Derived.Deep.Slices
import Derived.Deep.Fields
import Derived.ChangeSame
import Derived.Carry
namespace Go.Proofs.YtdkbgdjkdalalaaGreatDoor
open Go.ChangeShapes Go.WideShapes Go.ChangeAt Go.WideMaps Go.WideElems Go.RowKit Go.Deep
theorem own : ownKnob Tryz.prog.godebug = none := by kernel_rfl
theorem laidOut : laidOutB Tryz.prog = true := by kernel_rfl
def laid1 : List (String × DataW Unit) := [("math/bits.deBruijn64tab", Rows.laid_math_bits_deBruijn64tab)]
theorem door_met (os : Os) (args : Array Value) : laidMetH Tryz.prog laid1 ((World.doorLaid Tryz.prog 400 os).forCall (fun _ _ => 0) ⟨#[], args, []⟩).memory :=
  laidMetH_of_parts3 (fuel := 8) (laidMet_of_run' 8 (by kernel_rfl) (by kernel_rfl)) (by kernel_rfl) (by kernel_rfl)
theorem tabType : (Tryz.prog.globals[0]?).map (·.type) = some 132 := by kernel_rfl
theorem cellsElem : Tryz.prog.cellsOf 5 = 1 := by kernel_rfl
theorem cellsTab : Tryz.prog.cellsOf 132 = 64 := by kernel_rfl
theorem tab_of_laid {W : World} (h : laidMetH Tryz.prog laid1 W) : Tab W := by
  rw [MakeChecks.laidMetH_plain _ _ _ (by kernel_rfl)] at h
  have h1 : laidMet Tryz.prog [("math/bits.deBruijn64tab", Lib.tabData .u8 (Lib.deBruijn64tab.map fun (n : Nat) => (n : Int)))] W := h
  exact Tab.of_laid (Lib.tabIs_of_head tabGlobal tabType Tryz.underlying132 Tryz.underlying5 cellsElem cellsTab h1)
theorem block_lt {w : World} {p : Addr} {v : Value} (h : w.cell? p = some v) : p.block < w.heap.size := by
  unfold World.cell? at h
  cases hq : w.heap[p.block]? with
  | none => rw [hq] at h; cases h
  | some o => exact (Array.getElem?_eq_some_iff.1 hq).1
section
variable {H : Type} {enc : TypeId × Value → H} {w : World} {spare : Nat → Bool} {held : Bool}
/-- One integer field of an element: its cell holds an integer of its kind. -/
theorem field_int {fs : Array Field} {cs : List Value} {n j : Nat} {k : IntKind} {ys : List (DataW H × List MemPlace)} {base : Nat} (hone : oneCellFields Tryz.prog fs = true) (hlen : ys.length = fs.size)
    (hall : ∀ (j : Nat) (f : Field), fs[j]? = some f → DataW.trod enc Tryz.prog w base spare held n f.type ((cs.drop f.offset).take (Tryz.prog.cellsOf f.type)) = ys[j]?)
    (hk : ((fs[j]?).bind fun f => Tryz.prog.underlying f.type) = some (.int k)) : ∃ z : Int, cs[j]? = some (.int k z) ∧ (Lit.int k z).wf = true := by
  cases hf : fs[j]? with
  | none => rw [hf] at hk; cases hk
  | some f =>
    rw [hf] at hk
    rw [Option.bind_some] at hk
    obtain ⟨h1, h2⟩ := hone_of hone j f hf
    have h3 := hall j f hf
    rw [h1, h2] at h3
    have hj : j < ys.length := by rw [hlen]; exact (Array.getElem?_eq_some_iff.1 hf).1
    rw [List.getElem?_eq_getElem hj] at h3
    obtain ⟨z, hz, _, hw⟩ := DataW.trod_int hk h3
    refine ⟨z, ?_, hw⟩
    have h4 : ((cs.drop j).take 1)[0]? = some (Value.int k z) := by rw [hz]; rfl
    simpa using h4
end
end Go.Proofs.YtdkbgdjkdalalaaGreatDoor
