/-
  What the rows' proofs of stage 3 share: a script and a list of words, as they were handed in, are ones that the walks read.
-/
import Derived.Test.YtbmkjlpjgkfjcaaDoorHRow
import Derived.Test.YtbmkjlpjgkfjcaaDoorGBoth
namespace Go.Proofs.YtbmkjlpjgkfjcaaDoor
open Go.ChangeShapes Go.WideShapes Go.ChangeAt Go.WideMaps Go.WideElems Go.RowKit Go.Deep
noncomputable def stepFields3 : Array Field := match Tryd.prog.underlying 57 with
  | some (.struct fs) => fs
  | _ => #[]
theorem stepUnder3 : Tryd.prog.underlying 57 = some (.struct stepFields3) := by
  have h : (match Tryd.prog.underlying 57 with
    | some (.struct _) => true
    | _ => false) = true := by kernel_rfl
  unfold stepFields3
  cases hu : Tryd.prog.underlying 57 with
  | none => rw [hu] at h; cases h
  | some u => rw [hu] at h; cases u <;> first | rfl | cases h
theorem stepCells3 : Tryd.prog.cellsOf 57 = 5 := by kernel_rfl
theorem wordCells : Tryd.prog.cellsOf 30 = 1 := by kernel_rfl
theorem bare {a : Addr} {v : Value} {w : World} (h : w.cell? (a.add 0) = some v) : a.spot = none := by simpa [Addr.add] using World.cell?_spot h
section
variable {H : Type} {enc : TypeId × Value → H} {w : World} {spare : Nat → Bool} {held : Bool}
theorem words_of {fuel : Nat} {cs : List Value} {x : DataW H × List MemPlace} (h : DataW.trod enc Tryd.prog w 0 spare held fuel 43 cs = some x) :
    ∃ A n c xs, cs = [.slice A n c] ∧ WordsAt w (fun b => b < w.heap.size) A n xs ∧ n ≤ 9223372036854775807 := by
  rcases open_slice Tryd.underlying43 h with ⟨rfl, _⟩ | ⟨a, len, cap, m, n, D, Pl, rfl, hb, hl, hm, hmm, rfl, hi⟩
  · exact ⟨none, 0, 0, [], rfl, ⟨rfl, (fun x hx => by cases hx), fun i hi => absurd hi (Nat.not_lt_zero i)⟩, by decide⟩
  · have hcut : ∀ i, i < len → ∃ z : Nat, w.cell? (a.add i) = some (.int .u64 (z : Int)) ∧ z < 18446744073709551616 := by
      intro i him
      have him2 : i < m := by rw [hmm]; split <;> omega
      obtain ⟨cs', hc, ht⟩ := hi i him2
      rw [wordCells, Nat.mul_one] at hc
      obtain ⟨_, hcl, hat⟩ := World.cells?_some hc
      obtain ⟨z, rfl, _, hw⟩ := DataW.trod_int Tryd.underlying30 ht
      have hz := bounds_u64 hw
      have c0 := hat 0 (by omega)
      rw [add_add, Nat.add_zero] at c0
      refine ⟨z.toNat, ?_, by omega⟩
      rw [Int.toNat_of_nonneg hz.1]
      exact c0
    let val : Nat → Nat := fun i => match w.cell? (a.add i) with
      | some (.int .u64 z) => z.toNat
      | _ => 0
    have hval : ∀ i, i < len → w.cell? (a.add i) = some (.int .u64 (val i : Int)) ∧ val i < 18446744073709551616 := by
      intro i hi
      obtain ⟨z, h1, h2⟩ := hcut i hi
      have : val i = z := by show (match w.cell? (a.add i) with | some (.int .u64 z) => z.toNat | _ => 0) = z; rw [h1]; rfl
      rw [this]; exact ⟨h1, h2⟩
    refine ⟨some a, len, cap, (List.range len).map val, rfl, ⟨by simp, fun x hx => ?_, fun i him => ?_⟩, by have := hm; unfold maxLen at this; omega⟩
    · obtain ⟨i, hi, rfl⟩ := List.mem_map.1 hx
      exact (hval i (List.mem_range.1 hi)).2
    · have s0 := (hval 0 (by omega)).1
      have hspot := bare s0
      obtain ⟨b, off, spot⟩ := a
      subst hspot
      have hadd : ∀ j, (Addr.add ⟨b, off, none⟩ j) = ⟨b, off + j, none⟩ := fun j => by unfold Addr.add; split <;> simp_all
      have hv := (hval i him).1
      rw [hadd] at hv
      have hlt := block_lt hv
      refine ⟨b, off, rfl, hlt, hlt, ?_⟩
      rw [hv, List.getD_eq_getElem?_getD, List.getElem?_map, List.getElem?_range him]
      rfl
/-- A field that is a list of words. -/
theorem field_words {fs : Array Field} {cs : List Value} {n j : Nat} {ys : List (DataW H × List MemPlace)} (hone : oneCellFields Tryd.prog fs = true) (hlen : ys.length = fs.size)
    (hall : ∀ (j : Nat) (f : Field), fs[j]? = some f → DataW.trod enc Tryd.prog w 0 spare held n f.type ((cs.drop f.offset).take (Tryd.prog.cellsOf f.type)) = ys[j]?)
    (hk : (fs[j]?).map (fun f => f.type) = some 43) : ∃ A n c xs, cs[j]? = some (.slice A n c) ∧ WordsAt w (fun b => b < w.heap.size) A n xs ∧ n ≤ 9223372036854775807 := by
  cases hf : fs[j]? with
  | none => rw [hf] at hk; cases hk
  | some f =>
    rw [hf] at hk
    have hk : f.type = 43 := by simpa using hk
    obtain ⟨h1, h2⟩ := hone_of hone j f hf
    have h3 := hall j f hf
    rw [h1, h2] at h3
    have hj : j < ys.length := by rw [hlen]; exact (Array.getElem?_eq_some_iff.1 hf).1
    rw [List.getElem?_eq_getElem hj, hk] at h3
    obtain ⟨A, m, c, xs, hcs, hw, hm⟩ := words_of h3
    refine ⟨A, m, c, xs, ?_, hw, hm⟩
    have h4 : ((cs.drop j).take 1)[0]? = some (Value.slice A m c) := by rw [hcs]; rfl
    simpa using h4
theorem script3_of {fuel : Nat} {cs : List Value} {x : DataW H × List MemPlace} (h : DataW.trod enc Tryd.prog w 0 spare held fuel 49 cs = some x) :
    ∃ A n c, cs = [.slice A n c] ∧ Script3 w (fun b => b < w.heap.size) A n ∧ n ≤ 9223372036854775807 := by
  rcases open_slice Tryd.underlying49 h with ⟨rfl, _⟩ | ⟨a, len, cap, m, n, D, Pl, rfl, hb, hl, hm, hmm, rfl, hi⟩
  · exact ⟨none, 0, 0, rfl, fun i hi => absurd hi (Nat.not_lt_zero i), by decide⟩
  · have hone : oneCellFields Tryd.prog stepFields3 = true := by kernel_rfl
    have hcut : ∀ i, i < len → ∃ (k a' b' x : Int) (A : Option Addr) (rn rc : Nat) (xs : List Nat), w.cell? (a.add (i * 5)) = some (.int .i64 k) ∧ w.cell? (a.add (i * 5 + 1)) = some (.int .i64 a') ∧ w.cell? (a.add (i * 5 + 2)) = some (.int .i64 b') ∧
        w.cell? (a.add (i * 5 + 3)) = some (.int .u64 x) ∧ w.cell? (a.add (i * 5 + 4)) = some (.slice A rn rc) ∧ (-9223372036854775808 ≤ a' ∧ a' ≤ 9223372036854775807) ∧ (-9223372036854775808 ≤ b' ∧ b' ≤ 9223372036854775807) ∧ (0 ≤ x ∧ x < 18446744073709551616) ∧ WordsAt w (fun b => b < w.heap.size) A rn xs ∧ rn ≤ 9223372036854775807 := by
      intro i him
      have him2 : i < m := by rw [hmm]; split <;> omega
      obtain ⟨cs', hc, ht⟩ := hi i him2
      rw [stepCells3] at hc
      obtain ⟨_, hcl, hat⟩ := World.cells?_some hc
      obtain ⟨ys, n', _, _, _, hyl, hf⟩ := DataW.trod_struct stepUnder3 ht
      obtain ⟨k, e0, _⟩ := field_int (j := 0) (k := .i64) hone hyl hf (by kernel_rfl)
      obtain ⟨a', e1, w1⟩ := field_int (j := 1) (k := .i64) hone hyl hf (by kernel_rfl)
      obtain ⟨b', e2, w2⟩ := field_int (j := 2) (k := .i64) hone hyl hf (by kernel_rfl)
      obtain ⟨x, e3, w3⟩ := field_int (j := 3) (k := .u64) hone hyl hf (by kernel_rfl)
      obtain ⟨A, rn, rc, xs, e4, hw, hrn⟩ := field_words (j := 4) hone hyl hf (by kernel_rfl)
      have b3 := bounds_u64 w3
      have c0 := (hat 0 (by omega)).trans e0
      have c1 := (hat 1 (by omega)).trans e1
      have c2 := (hat 2 (by omega)).trans e2
      have c3 := (hat 3 (by omega)).trans e3
      have c4 := (hat 4 (by omega)).trans e4
      rw [add_add] at c0 c1 c2 c3 c4
      exact ⟨k, a', b', x, A, rn, rc, xs, c0, c1, c2, c3, c4, bounds_i64 w1, bounds_i64 w2, ⟨b3.1, by omega⟩, hw, hrn⟩
    refine ⟨some a, len, cap, rfl, fun i him => ?_, by have := hm; unfold maxLen at this; omega⟩
    obtain ⟨_, _, _, _, _, _, _, _, s0, _⟩ := hcut 0 (by omega)
    have hspot : a.spot = none := bare s0
    obtain ⟨b, off, spot⟩ := a
    subst hspot
    obtain ⟨k, a', b', x, A, rn, rc, xs, e0, e1, e2, e3, e4, ha, hb', hx, hw, hrn⟩ := hcut i him
    have hadd : ∀ j, (Addr.add ⟨b, off, none⟩ j) = ⟨b, off + j, none⟩ := fun j => by unfold Addr.add; split <;> simp_all
    rw [hadd] at e0 e1 e2 e3 e4
    refine ⟨⟨k, a', b', x.toNat, A, rn, rc, xs⟩, b, off, rfl, block_lt e0, block_lt e0, e0, ?_, ?_, ?_, ?_, by show x.toNat < _; omega, hw, hrn, ha.1, ha.2, hb'.1, hb'.2⟩
    · rw [← Nat.add_assoc] at e1; exact e1
    · rw [← Nat.add_assoc] at e2; exact e2
    · rw [← Nat.add_assoc] at e3; rw [Int.toNat_of_nonneg hx.1]; exact e3
    · rw [← Nat.add_assoc] at e4; exact e4
end
end Go.Proofs.YtbmkjlpjgkfjcaaDoor
