/-
  What the rows' proofs of stage 2 share: the listed table's condition holds in the heap that the program's own start leaves, and gives the walks the table that they read; a script as it was handed in is one that the walks read.
-/
import Derived.Test.YtbmkjlpjgkfjcaaDoorRows
import Derived.Test.YtbmkjlpjgkfjcaaDoorHFits
import Derived.ProofKit
import Derived.LaidMore
import Derived.OpenShut
import Derived.Stop.Joined
import Derived.Stop.LaidErr
import Derived.Deep.Slices
import Derived.Deep.Fields
import Derived.ChangeSame
import Derived.Carry
namespace Go.Proofs.YtbmkjlpjgkfjcaaDoor
open Go.ChangeShapes Go.WideShapes Go.ChangeAt Go.WideMaps Go.WideElems Go.RowKit Go.Deep
theorem own : ownKnob Tryd.prog.godebug = none := by kernel_rfl
theorem laidOut : laidOutB Tryd.prog = true := by kernel_rfl
def laid1 : List (String × DataW Unit) := [("math/bits.deBruijn64tab", Rows.laid_math_bits_deBruijn64tab)]
theorem door_met (os : Os) (args : Array Value) : laidMetH Tryd.prog laid1 ((World.doorLaid Tryd.prog 400 os).forCall (fun _ _ => 0) ⟨#[], args, []⟩).memory :=
  laidMetH_of_parts3 (fuel := 8) (laidMet_of_run' 8 (by kernel_rfl) (by kernel_rfl)) (by kernel_rfl) (by kernel_rfl)
theorem tabType : (Tryd.prog.globals[0]?).map (·.type) = some 160 := by kernel_rfl
theorem cellsElem : Tryd.prog.cellsOf 5 = 1 := by kernel_rfl
theorem cellsTab : Tryd.prog.cellsOf 160 = 64 := by kernel_rfl
theorem tab_of_laid {W : World} (h : laidMetH Tryd.prog laid1 W) : Tab W := by
  rw [MakeChecks.laidMetH_plain _ _ _ (by kernel_rfl)] at h
  have h1 : laidMet Tryd.prog [("math/bits.deBruijn64tab", Lib.tabData .u8 (Lib.deBruijn64tab.map fun (n : Nat) => (n : Int)))] W := h
  exact Tab.of_laid (Lib.tabIs_of_head tabGlobal tabType Tryd.underlying160 Tryd.underlying5 cellsElem cellsTab h1)
noncomputable def stepFields : Array Field := match Tryd.prog.underlying 32 with
  | some (.struct fs) => fs
  | _ => #[]
theorem stepUnder : Tryd.prog.underlying 32 = some (.struct stepFields) := by
  have h : (match Tryd.prog.underlying 32 with
    | some (.struct _) => true
    | _ => false) = true := by kernel_rfl
  unfold stepFields
  cases hu : Tryd.prog.underlying 32 with
  | none => rw [hu] at h; cases h
  | some u => rw [hu] at h; cases u <;> first | rfl | cases h
theorem stepCells : Tryd.prog.cellsOf 32 = 4 := by kernel_rfl
theorem block_lt {w : World} {p : Addr} {v : Value} (h : w.cell? p = some v) : p.block < w.heap.size := by
  unfold World.cell? at h
  cases hq : w.heap[p.block]? with
  | none => rw [hq] at h; cases h
  | some o => exact (Array.getElem?_eq_some_iff.1 hq).1
section
variable {H : Type} {enc : TypeId × Value → H} {w : World} {spare : Nat → Bool} {held : Bool}
/-- One integer field of an element: its cell holds an integer of its kind. -/
theorem field_int {fs : Array Field} {cs : List Value} {n j : Nat} {k : IntKind} {ys : List (DataW H × List MemPlace)} {base : Nat} (hone : oneCellFields Tryd.prog fs = true) (hlen : ys.length = fs.size)
    (hall : ∀ (j : Nat) (f : Field), fs[j]? = some f → DataW.trod enc Tryd.prog w base spare held n f.type ((cs.drop f.offset).take (Tryd.prog.cellsOf f.type)) = ys[j]?)
    (hk : ((fs[j]?).bind fun f => Tryd.prog.underlying f.type) = some (.int k)) : ∃ z : Int, cs[j]? = some (.int k z) ∧ (Lit.int k z).wf = true := by
  cases hf : fs[j]? with
  | none => rw [hf] at hk; cases hk
  | some f =>
    rw [hf] at hk
    rw [Option.bind_some] at hk
    obtain ⟨h1, h2⟩ := hone_of hone j f hf
    have h3 := hall j f hf
    rw [h1, h2] at h3
    have hj : j < ys.length := by rw [hlen]; exact (Array.getElem?_eq_some_iff.1 hf).1
    rw [List.getElem?_eq_getElem hj] at h3
    obtain ⟨z, hz, _, hw⟩ := DataW.trod_int hk h3
    refine ⟨z, ?_, hw⟩
    have h4 : ((cs.drop j).take 1)[0]? = some (Value.int k z) := by rw [hz]; rfl
    simpa using h4
theorem script_of {fuel : Nat} {cs : List Value} {x : DataW H × List MemPlace} (h : DataW.trod enc Tryd.prog w 0 spare held fuel 22 cs = some x) :
    ∃ A n c, cs = [.slice A n c] ∧ Script w A n ∧ n ≤ 9223372036854775807 := by
  rcases open_slice Tryd.underlying22 h with ⟨rfl, _⟩ | ⟨a, len, cap, m, n, D, Pl, rfl, hb, hl, hm, hmm, rfl, hi⟩
  · exact ⟨none, 0, 0, rfl, fun i hi => absurd hi (Nat.not_lt_zero i), by decide⟩
  · have hone : oneCellFields Tryd.prog stepFields = true := by kernel_rfl
    have hcut : ∀ i, i < len → ∃ k a' b' x : Int, w.cell? (a.add (i * 4)) = some (.int .i64 k) ∧ w.cell? (a.add (i * 4 + 1)) = some (.int .i64 a') ∧ w.cell? (a.add (i * 4 + 2)) = some (.int .i64 b') ∧
        w.cell? (a.add (i * 4 + 3)) = some (.int .u64 x) ∧ (-9223372036854775808 ≤ a' ∧ a' ≤ 9223372036854775807) ∧ 0 ≤ x ∧ x < 18446744073709551616 := by
      intro i him
      have him2 : i < m := by rw [hmm]; split <;> omega
      obtain ⟨cs', hc, ht⟩ := hi i him2
      rw [stepCells] at hc
      obtain ⟨_, hcl, hat⟩ := World.cells?_some hc
      obtain ⟨ys, n', _, _, _, hyl, hf⟩ := DataW.trod_struct stepUnder ht
      obtain ⟨k, e0, _⟩ := field_int (j := 0) (k := .i64) hone hyl hf (by kernel_rfl)
      obtain ⟨a', e1, w1⟩ := field_int (j := 1) (k := .i64) hone hyl hf (by kernel_rfl)
      obtain ⟨b', e2, _⟩ := field_int (j := 2) (k := .i64) hone hyl hf (by kernel_rfl)
      obtain ⟨x, e3, w3⟩ := field_int (j := 3) (k := .u64) hone hyl hf (by kernel_rfl)
      have b3 := bounds_u64 w3
      have c0 := (hat 0 (by omega)).trans e0
      have c1 := (hat 1 (by omega)).trans e1
      have c2 := (hat 2 (by omega)).trans e2
      have c3 := (hat 3 (by omega)).trans e3
      rw [add_add] at c0 c1 c2 c3
      exact ⟨k, a', b', x, c0, c1, c2, c3, bounds_i64 w1, b3.1, by omega⟩
    refine ⟨some a, len, cap, rfl, fun i him => ?_, by have := hm; unfold maxLen at this; omega⟩
    obtain ⟨_, _, _, _, s0, _⟩ := hcut 0 (by omega)
    have hspot : a.spot = none := by simpa [Addr.add] using World.cell?_spot s0
    obtain ⟨b, off, spot⟩ := a
    subst hspot
    obtain ⟨k, a', b', x, e0, e1, e2, e3, ha, hx0, hx1⟩ := hcut i him
    have hadd : ∀ j, (Addr.add ⟨b, off, none⟩ j) = ⟨b, off + j, none⟩ := fun j => by unfold Addr.add; split <;> simp_all
    rw [hadd] at e0 e1 e2 e3
    refine ⟨⟨k, a', b', x.toNat⟩, b, off, rfl, block_lt e0, e0, ?_, ?_, ?_, by show x.toNat < _; omega, ha.1, ha.2⟩
    · rw [← Nat.add_assoc] at e1; exact e1
    · rw [← Nat.add_assoc] at e2; exact e2
    · rw [← Nat.add_assoc] at e3; rw [Int.toNat_of_nonneg hx0]; exact e3
end
end Go.Proofs.YtbmkjlpjgkfjcaaDoor
