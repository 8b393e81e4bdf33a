/-
  What the rows' proofs of stage 5 share: the listed variable's condition holds in the heap that the program's own start leaves, and gives the walks the signs that they read.
-/
import Derived.Test.YtigbapkdpaahjaaDoorRows
import Derived.Test.YtigbapkdpaahjaaDoorLSign
import Derived.ProofKit
import Derived.LaidMore
import Derived.OpenShut
import Derived.Stop.Joined
import Derived.Stop.LaidErr
import Derived.SliceStrings
import Derived.SizedLaws
import Derived.Lib.LaidU8
namespace Go.Proofs.YtigbapkdpaahjaaDoor
open Go.ChangeShapes Go.WideShapes Go.ChangeAt Go.WideMaps Go.WideElems Go.RowKit
theorem own : ownKnob Tryd.prog.godebug = none := by kernel_rfl
def laidS : List (String × DataW Unit) := [("marquetry/lex.symbols", Rows.laid_marquetry_lex_symbols)]
theorem door_met (os : Os) (args : Array Value) : laidMetH Tryd.prog laidS ((World.doorLaid Tryd.prog 400 os).forCall (fun _ _ => 0) ⟨#[], args, []⟩).memory :=
  laidMetH_of_parts3 (fuel := 8) (laidMet_of_run' 8 (by kernel_rfl) (by kernel_rfl)) (by kernel_rfl) (by kernel_rfl)
theorem symsGlobal : Tryd.prog.globalNamed "marquetry/lex.symbols" = some 0 := by kernel_rfl
theorem symsType : (Tryd.prog.globals[0]?).map (·.type) = some 49 := by kernel_rfl
theorem cellsStr : Tryd.prog.cellsOf 9 = 1 := by kernel_rfl
theorem symsData : (Rows.laid_marquetry_lex_symbols : DataW Unit) = .slice (signL.map fun l => .lit (.string l)) [] := by rfl
theorem syms_of_read {W : World} (h1 : Lib.VarReads Tryd.prog W "marquetry/lex.symbols" Rows.laid_marquetry_lex_symbols) : Syms W := by
  obtain ⟨g', t', cs, fuel, p, hg, hty, hvar, hd⟩ := h1
  obtain rfl := Option.some.inj (symsGlobal.symm.trans hg)
  obtain rfl := Option.some.inj (symsType.symm.trans hty)
  rcases open_strings Tryd.underlying49 Tryd.underlying9 cellsStr hd with ⟨_, hx⟩ | ⟨a, len, cap, ss, hcs, _, hlc, _, hsl, hx, hcell, _⟩
  · cases hx
  have e0 := congrArg Prod.fst hx
  rw [symsData] at e0
  simp only [DataW.slice.injEq] at e0
  obtain ⟨eE, eR⟩ := e0
  have hlen : (ss.take len).length = 20 := by
    have := congrArg List.length eE
    simp only [List.length_map] at this
    rw [show signL.length = 20 from rfl] at this
    unfold strs at this
    simp at this ⊢
    omega
  have hsl2 : ss.length = cap := by simpa using hsl
  have hl20 : len = 20 := by rw [List.length_take] at hlen; omega
  subst hl20
  have hss : ∀ i, i < 20 → ss.getD i ByteArray.empty = ⟨(signL.getD i []).toArray⟩ := fun i hi => by
    have h9 := congrArg (fun l => l[i]?) eE
    unfold strs at h9
    simp only [List.getElem?_map, List.getElem?_take, if_pos hi] at h9
    rw [List.getElem?_eq_getElem (show i < signL.length from hi), List.getElem?_eq_getElem (show i < ss.length by omega)] at h9
    simp only [Option.map_some, Option.some.injEq, DataW.lit.injEq, Lit.string.injEq] at h9
    rw [List.getD_eq_getElem?_getD, List.getElem?_eq_getElem (show i < ss.length by omega), List.getD_eq_getElem?_getD, List.getElem?_eq_getElem (show i < signL.length from hi)]
    simp only [Option.getD_some]
    rw [h9]
  have hc0 := hcell 0 (by omega)
  obtain ⟨R, o, sR⟩ := a
  obtain rfl : sR = none := by
    have : (Addr.add ⟨R, o, sR⟩ 0) = ⟨R, o, sR⟩ := by simp [Addr.add]
    rw [this] at hc0
    exact Go.Proofs.cell_spot hc0
  have hgc : W.cell? ⟨0, 0, none⟩ = some (.slice (some ⟨R, o, none⟩) 20 cap) := by
    rw [World.var?_cell hg hvar 0, ← Array.getElem?_toList, hcs]
    rfl
  have hb : R < W.heap.size := by
    rw [Addr.add_lit] at hc0
    exact World.block_lt_of_cell? W (a := ⟨R, o + 0, none⟩) hc0
  exact ⟨World.block_lt_of_cell? W (a := ⟨0, 0, none⟩) hgc, R, o, cap, hgc, hb, fun i hi => by
    have h9 := hcell i (by omega)
    rw [Addr.add_lit, hss i hi] at h9
    exact h9⟩
theorem syms_of_laid {W : World} (h : laidMetH Tryd.prog laidS W) : Syms W := by
  rw [MakeChecks.laidMetH_plain _ _ _ (by kernel_rfl)] at h
  exact syms_of_read (Lib.laidMet.reads h (n := "marquetry/lex.symbols") (d := Rows.laid_marquetry_lex_symbols) (by simp [laidS]))
end Go.Proofs.YtigbapkdpaahjaaDoor
