/-
  What the rows' proofs of stage 6 share: the listed variables' condition holds in the heap that the program's own start leaves, and gives the walks the variables that they read.
-/
import Derived.Test.YtecpldnjpapalaaDoorLBase
import Derived.Test.YtecpldnjpapalaaDoorGEnd
import Derived.Deep.Strs
import Derived.DeepKeys2
namespace Go.Proofs.YtecpldnjpapalaaDoor
open Go.ChangeShapes Go.WideShapes Go.ChangeAt Go.WideMaps Go.WideElems Go.RowKit
def laidP : List (String × DataW Unit) := [("marquetry/lex.symbols", Rows.laid_marquetry_lex_symbols), ("marquetry/parse.levels", Rows.laid_marquetry_parse_levels), ("marquetry/parse.words", Rows.laid_marquetry_parse_words)]
theorem door_metP (os : Os) (args : Array Value) : laidMetH Tryd.prog laidP ((World.doorLaid Tryd.prog 400 os).forCall (fun _ _ => 0) ⟨#[], args, []⟩).memory :=
  laidMetH_of_parts3 (fuel := 8) (laidMet_of_run' 8 (by kernel_rfl) (by kernel_rfl)) (by kernel_rfl) (by kernel_rfl)
def leafS : DataW Unit → List Value
  | .lit (.string l) => [.string ⟨l.toArray⟩]
  | _ => []
def leafI : DataW Unit → List Value
  | .lit (.int k n) => [.int k n]
  | _ => []
def arrF (f : DataW Unit → List Value) : DataW Unit → List Value
  | .agg l => l.flatMap f
  | _ => []
def st3F (f g h : DataW Unit → List Value) : DataW Unit → List Value
  | .agg [a, b, c] => f a ++ (g b ++ h c)
  | _ => []
def Flat (W : World) (t : TypeId) (f : DataW Unit → List Value) : Prop := ∀ m cs (x : DataW Unit × List MemPlace), DataW.trod (fun _ => ()) Tryd.prog W 0 (fun _ => true) false m t cs = some x → cs = f x.1
theorem leafS_flat (W : World) : Flat W 9 leafS := fun m cs x h => by
  obtain ⟨s, rfl, rfl, _⟩ := DataW.trod_string Tryd.underlying9 h
  simp [leafS]
theorem leafI_flat (W : World) : Flat W 3 leafI := fun m cs x h => by
  obtain ⟨n, rfl, rfl, _⟩ := DataW.trod_int Tryd.underlying3 h
  rfl
theorem arr_flat {W : World} {t e : TypeId} {n : Nat} {f : DataW Unit → List Value} (ht : Tryd.prog.underlying t = some (.array n e)) (hc : Tryd.prog.cellsOf t = n * Tryd.prog.cellsOf e) (hf : Flat W e f) : Flat W t (arrF f) := fun m cs x h => by
  obtain ⟨xs, m', rfl, rfl, hl, hn, hi⟩ := DataW.trod_array ht h
  have h1 := chunks_flatten (Tryd.prog.cellsOf e) n cs (hl.trans hc)
  rw [← h1]
  show _ = (xs.map (·.1)).flatMap f
  have h2 : (List.range n).map (fun i => (cs.drop (i * Tryd.prog.cellsOf e)).take (Tryd.prog.cellsOf e)) = xs.map (fun y => f y.1) := by
    apply List.ext_getElem
    · simp [hn]
    · intro i hi1 hi2
      have hin : i < n := by simpa using hi1
      have h3 := hi i hin
      rw [List.getElem?_eq_getElem (by omega)] at h3
      have h4 := hf _ _ _ h3
      simpa using h4
  rw [h2, List.flatMap_map]
  rfl
theorem st3_flat {W : World} {t : TypeId} {f0 f1 f2 : Field} {f g h : DataW Unit → List Value} (ht : Tryd.prog.underlying t = some (.struct #[f0, f1, f2])) (h0 : f0.offset = 0) (h1 : f1.offset = Tryd.prog.cellsOf f0.type) (h2 : f2.offset = Tryd.prog.cellsOf f0.type + Tryd.prog.cellsOf f1.type) (hc : Tryd.prog.cellsOf t = Tryd.prog.cellsOf f0.type + Tryd.prog.cellsOf f1.type + Tryd.prog.cellsOf f2.type)
    (hf : Flat W f0.type f) (hg : Flat W f1.type g) (hh : Flat W f2.type h) : Flat W t (st3F f g h) := fun m cs x hx => by
  obtain ⟨y0, y1, y2, n, rfl, hl, k0, k1, k2⟩ := Go.Deep.trod_struct3 ht hx
  have e0 := hf _ _ _ k0
  have e1 := hg _ _ _ k1
  have e2 := hh _ _ _ k2
  rw [h0, List.drop_zero] at e0
  rw [h1] at e1
  rw [h2] at e2
  show cs = f y0.1 ++ (g y1.1 ++ h y2.1)
  rw [← e0, ← e1, ← e2]
  have h3 : (cs.drop (Tryd.prog.cellsOf f0.type + Tryd.prog.cellsOf f1.type)).take (Tryd.prog.cellsOf f2.type) = cs.drop (Tryd.prog.cellsOf f0.type + Tryd.prog.cellsOf f1.type) := List.take_of_length_le (by rw [List.length_drop]; omega)
  rw [h3, ← List.drop_drop, List.take_append_drop, List.take_append_drop]
theorem wordsGlobal : Tryd.prog.globalNamed "marquetry/parse.words" = some 2 := by kernel_rfl
theorem wordsType : (Tryd.prog.globals[2]?).map (·.type) = some 133 := by kernel_rfl
theorem levelsGlobal : Tryd.prog.globalNamed "marquetry/parse.levels" = some 1 := by kernel_rfl
theorem levelsType : (Tryd.prog.globals[1]?).map (·.type) = some 123 := by kernel_rfl
theorem words_flat (W : World) : Flat W 133 (arrF (arrF leafS)) :=
  arr_flat (e := 132) (n := 3) (by kernel_rfl) (by kernel_rfl) (arr_flat (e := 9) (n := 5) (by kernel_rfl) (by kernel_rfl) (leafS_flat W))
theorem struct3_of {u : Option TypeDesc} {a b c : TypeId × Nat} (h : (match u with | some (.struct fs) => fs.toList.map (fun f => (f.type, f.offset)) | _ => []) = [a, b, c]) : ∃ f0 f1 f2 : Field, u = some (.struct #[f0, f1, f2]) ∧ f0.type = a.1 ∧ f0.offset = a.2 ∧ f1.type = b.1 ∧ f1.offset = b.2 ∧ f2.type = c.1 ∧ f2.offset = c.2 := by
  split at h
  · rename_i fs
    obtain ⟨l⟩ := fs
    have h3 : l.length = 3 := by have := congrArg List.length h; simpa using this
    obtain ⟨f0, f1, f2, rfl⟩ : ∃ f0 f1 f2, l = [f0, f1, f2] := by
      rcases l with _ | ⟨f0, _ | ⟨f1, _ | ⟨f2, _ | ⟨f3, r⟩⟩⟩⟩
      · cases h3
      · cases h3
      · cases h3
      · exact ⟨f0, f1, f2, rfl⟩
      · simp at h3
    simp only [List.map_cons, List.map_nil, List.cons.injEq, and_true] at h
    obtain ⟨rfl, rfl, rfl⟩ := h
    exact ⟨f0, f1, f2, rfl, rfl, rfl, rfl, rfl, rfl, rfl⟩
  · cases h
set_option maxRecDepth 100000 in
theorem level_under : ∃ f0 f1 f2 : Field, Tryd.prog.underlying 122 = some (.struct #[f0, f1, f2]) ∧ f0.type = 3 ∧ f0.offset = 0 ∧ f1.type = 3 ∧ f1.offset = 1 ∧ f2.type = 120 ∧ f2.offset = 2 :=
  struct3_of (u := Tryd.prog.underlying 122) (a := (3, 0)) (b := (3, 1)) (c := (120, 2)) (by kernel_rfl)
theorem levels_flat (W : World) : Flat W 123 (arrF (st3F leafI leafI (arrF leafS))) := by
  obtain ⟨f0, f1, f2, hu, t0, o0, t1, o1, t2, o2⟩ := level_under
  refine arr_flat (e := 122) (n := 5) (by kernel_rfl) (by kernel_rfl) (st3_flat hu o0 ?_ ?_ ?_ ?_ ?_ ?_)
  · rw [o1, t0]; kernel_rfl
  · rw [o2, t0, t1]; kernel_rfl
  · rw [t0, t1, t2]; kernel_rfl
  · rw [t0]; exact leafI_flat W
  · rw [t1]; exact leafI_flat W
  · rw [t2]; exact arr_flat (e := 9) (n := 3) (by kernel_rfl) (by kernel_rfl) (leafS_flat W)
theorem ready_of_laid {W : World} (h : laidMetH Tryd.prog laidP W) : Ready W := by
  rw [MakeChecks.laidMetH_plain _ _ _ (by kernel_rfl)] at h
  have hw : ∀ (i : Nat) (v : Value), wordCells[i]? = some v → W.cell? ⟨2, i, none⟩ = some v := by
    have h1 := Lib.laidMet.reads h (n := "marquetry/parse.words") (d := Rows.laid_marquetry_parse_words) (by simp [laidP])
    obtain ⟨g', t', cs, fuel, p, hg, hty, hvar, hd⟩ := h1
    obtain rfl := Option.some.inj (wordsGlobal.symm.trans hg)
    obtain rfl := Option.some.inj (wordsType.symm.trans hty)
    have h2 : cs.toList = wordCells := (words_flat W _ _ _ hd).trans rfl
    intro i v hv
    rw [World.var?_cell hg hvar i, ← Array.getElem?_toList, h2]
    exact hv
  have hl : ∀ (i : Nat) (v : Value), levelCells[i]? = some v → W.cell? ⟨1, i, none⟩ = some v := by
    have h1 := Lib.laidMet.reads h (n := "marquetry/parse.levels") (d := Rows.laid_marquetry_parse_levels) (by simp [laidP])
    obtain ⟨g', t', cs, fuel, p, hg, hty, hvar, hd⟩ := h1
    obtain rfl := Option.some.inj (levelsGlobal.symm.trans hg)
    obtain rfl := Option.some.inj (levelsType.symm.trans hty)
    have h2 : cs.toList = levelCells := (levels_flat W _ _ _ hd).trans rfl
    intro i v hv
    rw [World.var?_cell hg hvar i, ← Array.getElem?_toList, h2]
    exact hv
  exact ⟨syms_of_read (Lib.laidMet.reads h (n := "marquetry/lex.symbols") (d := Rows.laid_marquetry_lex_symbols) (by simp [laidP])), ⟨hw, hl⟩, World.block_lt_of_cell? W (a := ⟨2, 0, none⟩) (hw 0 _ rfl), World.block_lt_of_cell? W (a := ⟨1, 0, none⟩) (hl 0 _ rfl)⟩
end Go.Proofs.YtecpldnjpapalaaDoor
