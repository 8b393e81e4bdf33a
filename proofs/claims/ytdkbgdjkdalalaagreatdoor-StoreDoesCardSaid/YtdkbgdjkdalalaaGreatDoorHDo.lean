/-
  The walk of a step of both heaps: they answer alike, and hold alike behind it.
-/
import Derived.Test.YtdkbgdjkdalalaaGreatDoorHTwin
namespace Go.Proofs.YtdkbgdjkdalalaaGreatDoor
open Go.RowKit
theorem used_len (L : List Ob) : L.length ≤ usedBy L := by
  induction L with
  | nil => exact Nat.le_refl _
  | cons o L ih => simp only [List.length_cons, usedBy]; omega
theorem lies_len {m : Nat} {L : List Ob} (h : Lies m 1 L) (hm : m ≤ 65536) : L.length ≤ 65536 := by
  have h1 := free_sum m 1 L h
  have h2 := used_len L
  omega
theorem lies_fields {m : Nat} {L : List Ob} (h : Lies m 1 L) (hm : m ≤ 65536) : ∀ o ∈ L, o.fs.length ≤ 65536 := fun o ho => by
  have h1 := lies_mem m 1 L h o ho
  have hnx : o.next = o.at_ + 1 + o.fs.length := rfl
  omega
/-- They answered alike, and hold alike. -/
def DoIs (F : Nat → Prop) (q r m : Nat) (w : World) (e : Ending) (w' : World) : Prop := ∃ L', e = .returned (.bool true) ∧ TwinStep F q r m L' L' w w'
/-- The step's own block, beside what stood. -/
def Boxed (F : Nat → Prop) (w : World) (b : Nat) : Prop := F b ∨ b = w.heap.size
theorem step_back {F : Nat → Prop} {q r m : Nat} {L K : List Ob} {w w0 w' : World} (hb : Below w.heap.size w w0) (_hF : ∀ b, F b → b < w.heap.size) (h : TwinStep (Boxed F w) q r m L K w0 w') : TwinStep F q r m L K w w' :=
  ⟨h.1.less fun _ hb => .inl hb, ⟨h.2.os.trans hb.os, h.2.tape.trans hb.tape, h.2.output.trans hb.output, Nat.le_trans hb.size h.2.size, fun k hk hn => (h.2.block k (Nat.lt_of_lt_of_le hk hb.size) (fun hx => hn fun hF => hx (.inl hF))).trans (hb.block k hk)⟩⟩
theorem TwinStep.then {F : Nat → Prop} {q r m : Nat} {L K L' K' : List Ob} {a b c : World} (h : TwinStep F q r m L K a b) (k : TwinStep F q r m L' K' b c) : TwinStep F q r m L' K' a c := ⟨k.1, h.2.trans k.2⟩
theorem hKind_no {L : List Ob} {a : Int} (h : a < 0 ∨ findOb L a.toNat = none) : hKind L a = (0, 7) := by
  unfold hKind
  split
  · rfl
  · rcases h with h | h
    · omega
    · rw [h]
theorem hSize_no {L : List Ob} {a : Int} (h : a < 0 ∨ findOb L a.toNat = none) : hSize L a = (0, 7) := by
  unfold hSize
  split
  · rfl
  · rcases h with h | h
    · omega
    · rw [h]
theorem hKind_at {L : List Ob} {n : Nat} {o : Ob} (h : findOb L n = some o) : hKind L (n : Int) = (o.kind, 0) := by
  unfold hKind
  rw [if_neg (by omega), Int.toNat_natCast, h]
theorem hSize_at {L : List Ob} {n : Nat} {o : Ob} (h : findOb L n = some o) : hSize L (n : Int) = (o.fs.length, 0) := by
  unfold hSize
  rw [if_neg (by omega), Int.toNat_natCast, h]
theorem Twin.cell0 {F : Nat → Prop} {w : World} {q r m : Nat} {L K : List Ob} (h : Twin F w q r m L K) : w.cell? ⟨r, 0, none⟩ = some (.int .i64 (m : Int)) := by
  obtain ⟨S, T, _, hR, _⟩ := h
  obtain ⟨A, c, c0, _⟩ := hR.seen
  exact c0
end Go.Proofs.YtdkbgdjkdalalaaGreatDoor
