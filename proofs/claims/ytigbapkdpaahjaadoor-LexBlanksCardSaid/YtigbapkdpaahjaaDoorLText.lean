/-
  Lex: the walks of strings.Clone, text, IsWord.
-/
import Derived.Test.YtigbapkdpaahjaaDoorLSize
import Derived.Test.YtigbapkdpaahjaaDoorShelf
namespace Go.Proofs.YtigbapkdpaahjaaDoor
open Go.RowKit
def tokAgg (k a : Int) (s : List UInt8) (n : Int) : Value := .agg #[.int .i64 k, .int .i64 a, .string ⟨s.toArray⟩, .int .i64 n]
def ValMade (v : Value) (w : World) (e : Ending) (w' : World) : Prop := e = .returned v ∧ Below w.heap.size w w'
theorem box_lt {w : World} {q : Nat} {cs : Array Value} {t : TypeId} {fr : Nat × Nat} (h : w.heap[q]? = some (.cells cs t fr)) : q < w.heap.size := (Array.getElem?_eq_some_iff.1 h).1
/-- A token's cells. -/
def TokBox (w : World) (b : Nat) (k a : Int) (s : ByteArray) (n : Int) : Prop := w.heap[b]? = some (.cells #[.int .i64 k, .int .i64 a, .string s, .int .i64 n] 31 (0, 0))
theorem TokBox.cells {w : World} {b : Nat} {k a n : Int} {s : ByteArray} (h : TokBox w b k a s n) : w.cell? ⟨b, 0, none⟩ = some (.int .i64 k) ∧ w.cell? ⟨b, 1, none⟩ = some (.int .i64 a) ∧ w.cell? ⟨b, 2, none⟩ = some (.string s) ∧ w.cell? ⟨b, 3, none⟩ = some (.int .i64 n) ∧ ∀ i, w.frozen? ⟨b, i, none⟩ = false := by
  refine ⟨?_, ?_, ?_, ?_, Lib.frozen_of_heap h⟩ <;> (rw [Lib.cell_of_heap h]; rfl)
theorem TokBox.new (w : World) : TokBox (w.alloc (.cells #[.int .i64 0, .int .i64 0, .string ⟨#[]⟩, .int .i64 0] 31 (0, 0))) w.heap.size 0 0 ⟨#[]⟩ 0 := box_at w _ _ rfl
theorem below_tok (w : World) : Below w.heap.size w (w.alloc (.cells #[.int .i64 0, .int .i64 0, .string ⟨#[]⟩, .int .i64 0] 31 (0, 0))) := (Below.refl _ w).alloc (Nat.le_refl _) _
theorem TokBox.below {w w' : World} {b B : Nat} {k a n : Int} {s : ByteArray} (h : TokBox w b k a s n) (hb : Below B w w') (hB : b < B) : TokBox w' b k a s n := (hb.block b hB).trans h
theorem heap_setOne {w : World} {b : Nat} {c : Array Value} {t : TypeId} {fz : Nat × Nat} (h : w.heap[b]? = some (.cells c t fz)) (i : Nat) (v : Value) : (w.setCell ⟨b, i, none⟩ v).heap[b]? = some (.cells (c.setIfInBounds i v) t fz) := by
  simp [World.setCell, Array.getElem?_modify, h]
/-- The world with a token's four cells stored. -/
def tokSet (w : World) (b : Nat) (k a : Int) (s : ByteArray) (n : Int) : World := (((w.setCell ⟨b, 0, none⟩ (.int .i64 k)).setCell ⟨b, 1, none⟩ (.int .i64 a)).setCell ⟨b, 2, none⟩ (.string s)).setCell ⟨b, 3, none⟩ (.int .i64 n)
theorem TokBox.set {w : World} {b : Nat} {k a n : Int} {s : ByteArray} (h : TokBox w b k a s n) (k' a' : Int) (s' : ByteArray) (n' : Int) : TokBox (tokSet w b k' a' s' n') b k' a' s' n' :=
  heap_setOne (heap_setOne (heap_setOne (heap_setOne h 0 _) 1 _) 2 _) 3 _
theorem tokSet_below {B : Nat} {w w' : World} {b : Nat} (h : Below B w w') (hB : B ≤ b) (k a : Int) (s : ByteArray) (n : Int) : Below B w (tokSet w' b k a s n) :=
  (((h.setCell (p := ⟨b, 0, none⟩) hB _).setCell (p := ⟨b, 1, none⟩) hB _).setCell (p := ⟨b, 2, none⟩) hB _).setCell (p := ⟨b, 3, none⟩) hB _
/-- What a token's box holds is stored, and what was there stands. -/
theorem tok_stored {w w1 w2 : World} {b : Nat} {k a n : Int} {s : ByteArray} (h : TokBox w1 b k a s n) (hb : Below w.heap.size w w1) (hB : w.heap.size ≤ b) (k' a' : Int) (s' : ByteArray) (n' : Int) (he : tokSet w1 b k' a' s' n' = w2) : TokBox w2 b k' a' s' n' ∧ Below w.heap.size w w2 := by
  subst he
  exact ⟨h.set _ _ _ _, tokSet_below hb hB _ _ _ _⟩
theorem strings_Clone_any (s : ByteArray) (w : World) (hs : s.size ≤ 281474976710656) : Calls Tryd.prog 45 #[.string s] w (ValMade (.string s) w) := by
  go_enter Tryd.func45, Tryd.ntmps45
  go_wp2_with fail
  refine (Tryd.stringslite_Clone s _ hs).mono ?_
  rintro e w1 ⟨rfl, hb⟩
  have HB := Lib.hid hb
  clear hb
  go_wp2_with fail
  go_ret
  exact ⟨rfl, HB.out⟩
theorem lex_text (k : Int) (s : ByteArray) (w : World) (hs : s.size ≤ 281474976710656) : Calls Tryd.prog 38 #[.int .i64 k, .string s] w (ValMade (tokAgg k 0 s.data.toList 0) w) := by
  have HC := Lib.hid (fun W => strings_Clone_any s W hs)
  have HE := Lib.hid (bytes_back s)
  go_enter Tryd.func38, Tryd.ntmps38
  go_wp2_with fail
  refine (HC.out _).mono ?_
  rintro e w1 ⟨rfl, hb⟩
  have hn := (TokBox.new w).below hb (by simp)
  obtain ⟨c0, c1, c2, c3, cf⟩ := hn.cells
  have f0 := cf 0
  have f1 := cf 1
  have f2 := cf 2
  have f3 := cf 3
  have hl := box_lt hn
  have HB := Lib.hid hb
  have HN := Lib.hid hn
  clear hb hn cf
  go_wp2_with fail
  have HS := Lib.hid (tok_stored HN.out ((below_tok w).trans (HB.out.mono (by simp))) (Nat.le_refl _) k 0 s 0 rfl)
  unfold tokSet at HS
  generalize World.setCell _ _ _ = w9 at *
  obtain ⟨d0, d1, d2, d3, _⟩ := HS.out.1.cells
  refine bodyPost_ret (v := tokAgg k 0 s.data.toList 0) (by simp [results, Tryd.results38, go_sem, d0, d1, d2, d3, tokAgg]) rfl ⟨rfl, HS.out.2⟩
end Go.Proofs.YtigbapkdpaahjaaDoor
