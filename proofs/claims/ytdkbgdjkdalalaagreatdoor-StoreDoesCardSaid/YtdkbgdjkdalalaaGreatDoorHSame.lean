/-
  The walk of 'same' of the heap's laws: a heap of the program's and one of the document's that hold the same objects are found to hold the same.
-/
import Derived.Test.YtdkbgdjkdalalaaGreatDoorHDo
import Derived.Test.YtdkbgdjkdalalaaGreatDoorHCounts
import Derived.Outline
namespace Go.Proofs.YtdkbgdjkdalalaaGreatDoor
open Go.RowKit
theorem head_drop {L : List Ob} {k : Nat} {o : Ob} (h : L[k]? = some o) : headAt (L.drop k) = o.at_ := by
  have hk : k < L.length := (List.getElem?_eq_some_iff.1 h).1
  rw [List.drop_eq_getElem_cons hk]
  have : L[k] = o := by rw [List.getElem?_eq_getElem hk] at h; exact Option.some.inj h
  rw [this]; rfl
theorem next_drop {m k : Nat} {L : List Ob} {o : Ob} (hl : Lies m 1 L) (h : L[k]? = some o) : nextOb L (o.at_ + 1) = headAt (L.drop (k + 1)) := by
  have hs := split_at h
  have h1 := next_step m 1 (L.take k) (L.drop (k + 1)) o (by rw [← hs]; exact hl)
  rw [← hs] at h1
  exact h1
/-- Both heaps, and what was there before, as the look goes on. -/
def Looks (F : Nat → Prop) (q r m : Nat) (L : List Ob) (w wr : World) : Prop := Twin F wr q r m L L ∧ Tab wr ∧ Below w.heap.size w wr
theorem Looks.next {F : Nat → Prop} {q r m : Nat} {L : List Ob} {w wr w' : World} (h : Looks F q r m L w wr) (hb : Below wr.heap.size wr w') : Looks F q r m L w w' :=
  ⟨h.1.below hb, h.2.1.below hb h.2.1.lt, h.2.2.trans (hb.mono h.2.2.size)⟩
theorem Looks.drew {F : Nat → Prop} {q r m : Nat} {L : List Ob} {w wr : World} (h : Looks F q r m L w wr) : Looks F q r m L w wr.drew := h.next (Below.refl _ _).drew
theorem Twin.seen {F : Nat → Prop} {w : World} {q r m : Nat} {L K : List Ob} (h : Twin F w q r m L K) : ∃ A c, w.cell? ⟨r, 1, none⟩ = some (.slice A K.length c) ∧ ∀ i o, K[i]? = some o → ObSeen w A i o := by
  obtain ⟨S, T, _, hR, _⟩ := h
  obtain ⟨A, c, _, c1, hs⟩ := hR.seen
  exact ⟨A, c, c1, hs⟩
theorem below_one {w : World} (o : Obj) : Below w.heap.size w (w.alloc o) := (Below.refl _ w).alloc (Nat.le_refl _) o
end Go.Proofs.YtdkbgdjkdalalaaGreatDoor
