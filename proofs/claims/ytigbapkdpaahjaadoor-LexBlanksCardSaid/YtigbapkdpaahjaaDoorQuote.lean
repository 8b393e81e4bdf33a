/-
  The walks of Quote of both sides: the quoted forms of a text's bytes, between quotation marks. Condition: the text has at most 2^40 bytes.
-/
import Derived.Test.YtigbapkdpaahjaaDoorQuoted
import Derived.Deep.LoopGhost
namespace Go.Proofs.YtigbapkdpaahjaaDoor
open Go.RowKit
def qbody (l : List UInt8) : List UInt8 := l.flatMap fun c => qf c.toNat
def qall (l : List UInt8) : List UInt8 := 34 :: (qbody l ++ [34])
theorem qf_length (n : Nat) : (qf n).length ≤ 4 := by
  unfold qf
  repeat' split
  all_goals simp
theorem qf_pos (n : Nat) : 1 ≤ (qf n).length := by
  unfold qf
  repeat' split
  all_goals simp
theorem qbody_length (l : List UInt8) : (qbody l).length ≤ 4 * l.length := by
  induction l with
  | nil => simp [qbody]
  | cons c r ih =>
    have := qf_length c.toNat
    unfold qbody at ih ⊢
    simp only [List.flatMap_cons, List.length_append, List.length_cons]
    omega
theorem qbody_step (s : ByteArray) (k : Nat) (h : k < s.size) : qbody (s.data.toList.take (k + 1)) = qbody (s.data.toList.take k) ++ qf s[k].toNat := by
  rw [take_snoc s k h]
  unfold qbody
  rw [List.flatMap_append]
  simp
theorem isBuilder_below {B b : Nat} {bs : List Value} {w w' : World} (h : Lib.IsBuilder 56 5 B b bs w) (hb : Below w.heap.size w w') : Lib.IsBuilder 56 5 B b bs w' := by
  have hg : w.grownBy w' none := ⟨hb.os, hb.tape, hb.output, hb.size, fun k hk _ => hb.block k hk⟩
  have core : ∀ p, Lib.BuilderAt 56 5 B b p bs w → Lib.BuilderAt 56 5 B b p bs w' := by
    intro p h
    have hl := h.lt
    obtain ⟨h0, v, hv, hown, hne⟩ := h
    exact ⟨h0, v, (hb.block b hl).trans hv, hown.kept hg (by cases v.ownBlock <;> simp), hne⟩
  rcases h with h | h
  · exact Or.inl (core _ h)
  · exact Or.inr (core _ h)
theorem isBuilder_new (w : World) (B : Nat) (hB : B ≤ w.heap.size) : Lib.IsBuilder 56 5 B w.heap.size [] (w.alloc (.cells #[.pointer none, .slice none 0 0] 56 (0, 0))) := by
  refine Or.inl ⟨hB, .slice none 0 0, box_at w _ _ rfl, ⟨rfl, Or.inl ⟨rfl, rfl⟩⟩, by simp [Value.ownBlock]⟩
theorem byteCells_append (a b : List UInt8) : Lib.byteCells (a ++ b) = Lib.byteCells a ++ Lib.byteCells b := by simp [Lib.byteCells]
theorem strCells_of (l : List UInt8) : Lib.strCells ⟨l.toArray⟩ = Lib.byteCells l := by simp [Lib.strCells, Lib.byteCells]
def QRel (s : ByteArray) (w : World) (k : Nat) (wr : World) : Prop := Lib.IsBuilder 56 5 w.heap.size w.heap.size (Lib.byteCells (34 :: qbody (s.data.toList.take k))) wr ∧ Below w.heap.size w wr
theorem qlen (s : ByteArray) (k : Nat) (hs : s.size ≤ 1099511627776) (hk : k ≤ s.size) : (Lib.byteCells (34 :: qbody (s.data.toList.take k))).length ≤ 4398046511105 := by
  have h1 := qbody_length (s.data.toList.take k)
  have h2 : (s.data.toList.take k).length ≤ k := List.length_take_le _ _
  rw [Lib.byteCells_length]
  simp only [List.length_cons]
  omega
theorem qstep {s : ByteArray} {w : World} {k : Nat} (h : k < s.size) {wr : World} (h1 : Lib.IsBuilder 56 5 w.heap.size w.heap.size (Lib.byteCells (34 :: qbody (s.data.toList.take k)) ++ Lib.strCells ⟨(qf s[k].toNat).toArray⟩) wr) (hb : Below w.heap.size w wr) : QRel s w (k + 1) wr := by
  refine ⟨?_, hb⟩
  rw [qbody_step s k h, ← List.cons_append, byteCells_append, ← strCells_of (qf s[k].toNat)]
  exact h1
end Go.Proofs.YtigbapkdpaahjaaDoor
