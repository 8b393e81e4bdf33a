/-
  What the rows' proofs of stage 4 share: a script of the store's laws, as it was handed in, is one that the walks read.
-/
import Derived.Test.YtdkbgdjkdalalaaGreatDoorHRow
import Derived.Test.YtdkbgdjkdalalaaGreatDoorZSAll
namespace Go.Proofs.YtdkbgdjkdalalaaGreatDoor
open Go.ChangeShapes Go.WideShapes Go.ChangeAt Go.WideMaps Go.WideElems Go.RowKit Go.Deep
noncomputable def stepFields4 : Array Field := match Tryz.prog.underlying 30 with
  | some (.struct fs) => fs
  | _ => #[]
theorem stepUnder4 : Tryz.prog.underlying 30 = some (.struct stepFields4) := by
  have h : (match Tryz.prog.underlying 30 with
    | some (.struct _) => true
    | _ => false) = true := by kernel_rfl
  unfold stepFields4
  cases hu : Tryz.prog.underlying 30 with
  | none => rw [hu] at h; cases h
  | some u => rw [hu] at h; cases u <;> first | rfl | cases h
theorem stepCells4 : Tryz.prog.cellsOf 30 = 6 := by kernel_rfl
section
variable {H : Type} {enc : TypeId × Value → H} {w : World} {spare : Nat → Bool} {held : Bool}
/-- A field that is a string. -/
theorem field_string {fs : Array Field} {cs : List Value} {n j : Nat} {ys : List (DataW H × List MemPlace)} (hone : oneCellFields Tryz.prog fs = true) (hlen : ys.length = fs.size)
    (hall : ∀ (j : Nat) (f : Field), fs[j]? = some f → DataW.trod enc Tryz.prog w 0 spare held n f.type ((cs.drop f.offset).take (Tryz.prog.cellsOf f.type)) = ys[j]?)
    (hk : ((fs[j]?).bind fun f => Tryz.prog.underlying f.type) = some .string) : ∃ s : ByteArray, cs[j]? = some (.string s) ∧ s.size ≤ maxLen := by
  cases hf : fs[j]? with
  | none => rw [hf] at hk; cases hk
  | some f =>
    rw [hf] at hk
    rw [Option.bind_some] at hk
    obtain ⟨h1, h2⟩ := hone_of hone j f hf
    have h3 := hall j f hf
    rw [h1, h2] at h3
    have hj : j < ys.length := by rw [hlen]; exact (Array.getElem?_eq_some_iff.1 hf).1
    rw [List.getElem?_eq_getElem hj] at h3
    obtain ⟨s, hs, _, hm⟩ := DataW.trod_string hk h3
    refine ⟨s, ?_, hm⟩
    have h4 : ((cs.drop j).take 1)[0]? = some (Value.string s) := by rw [hs]; rfl
    simpa using h4
theorem script4_of {fuel : Nat} {cs : List Value} {x : DataW H × List MemPlace} (h : DataW.trod enc Tryz.prog w 0 spare held fuel 22 cs = some x) :
    ∃ A n c, cs = [.slice A n c] ∧ Script4 w (fun b => b < w.heap.size) A n ∧ n ≤ 9223372036854775807 := by
  rcases open_slice Tryz.underlying22 h with ⟨rfl, _⟩ | ⟨a, len, cap, m, n, D, Pl, rfl, hb, hl, hm, hmm, rfl, hi⟩
  · exact ⟨none, 0, 0, rfl, fun i hi => absurd hi (Nat.not_lt_zero i), by decide⟩
  · have hone : oneCellFields Tryz.prog stepFields4 = true := by kernel_rfl
    have hcut : ∀ i, i < len → ∃ (k a' b' n' m' : Int) (s : ByteArray), w.cell? (a.add (i * 6)) = some (.int .i64 k) ∧ w.cell? (a.add (i * 6 + 1)) = some (.int .i64 a') ∧ w.cell? (a.add (i * 6 + 2)) = some (.int .i64 b') ∧
        w.cell? (a.add (i * 6 + 3)) = some (.int .i64 n') ∧ w.cell? (a.add (i * 6 + 4)) = some (.int .i64 m') ∧ w.cell? (a.add (i * 6 + 5)) = some (.string s) ∧ s.size ≤ 9223372036854775807 := by
      intro i him
      have him2 : i < m := by rw [hmm]; split <;> omega
      obtain ⟨cs', hc, ht⟩ := hi i him2
      rw [stepCells4] at hc
      obtain ⟨_, hcl, hat⟩ := World.cells?_some hc
      obtain ⟨ys, n', _, _, _, hyl, hf⟩ := DataW.trod_struct stepUnder4 ht
      obtain ⟨k, e0, _⟩ := field_int (j := 0) (k := .i64) hone hyl hf (by kernel_rfl)
      obtain ⟨a', e1, _⟩ := field_int (j := 1) (k := .i64) hone hyl hf (by kernel_rfl)
      obtain ⟨b', e2, _⟩ := field_int (j := 2) (k := .i64) hone hyl hf (by kernel_rfl)
      obtain ⟨x, e3, _⟩ := field_int (j := 3) (k := .i64) hone hyl hf (by kernel_rfl)
      obtain ⟨y, e4, _⟩ := field_int (j := 4) (k := .i64) hone hyl hf (by kernel_rfl)
      obtain ⟨s, e5, hs⟩ := field_string (j := 5) hone hyl hf (by kernel_rfl)
      have c0 := (hat 0 (by omega)).trans e0
      have c1 := (hat 1 (by omega)).trans e1
      have c2 := (hat 2 (by omega)).trans e2
      have c3 := (hat 3 (by omega)).trans e3
      have c4 := (hat 4 (by omega)).trans e4
      have c5 := (hat 5 (by omega)).trans e5
      rw [add_add] at c0 c1 c2 c3 c4 c5
      exact ⟨k, a', b', x, y, s, c0, c1, c2, c3, c4, c5, by unfold maxLen at hs; omega⟩
    refine ⟨some a, len, cap, rfl, fun i him => ?_, by have := hm; unfold maxLen at this; omega⟩
    obtain ⟨_, _, _, _, _, _, s0, _⟩ := hcut 0 (by omega)
    have hspot : a.spot = none := by simpa [Addr.add] using World.cell?_spot s0
    obtain ⟨b, off, spot⟩ := a
    subst hspot
    obtain ⟨k, a', b', x, y, s, e0, e1, e2, e3, e4, e5, hs⟩ := hcut i him
    have hadd : ∀ j, (Addr.add ⟨b, off, none⟩ j) = ⟨b, off + j, none⟩ := fun j => by unfold Addr.add; split <;> simp_all
    rw [hadd] at e0 e1 e2 e3 e4 e5
    refine ⟨⟨k, a', b', x, y, s⟩, b, off, rfl, block_lt e0, block_lt e0, e0, ?_, ?_, ?_, ?_, ?_, hs⟩
    · rw [← Nat.add_assoc] at e1; exact e1
    · rw [← Nat.add_assoc] at e2; exact e2
    · rw [← Nat.add_assoc] at e3; exact e3
    · rw [← Nat.add_assoc] at e4; exact e4
    · rw [← Nat.add_assoc] at e5; exact e5
end
end Go.Proofs.YtdkbgdjkdalalaaGreatDoor
