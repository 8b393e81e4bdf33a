/-
  A script of the collector's laws in memory; the walk of 'both': a heap of the program's and one of the document's with the same objects.
-/
import Derived.Test.YtdkbgdjkdalalaaGreatDoorGCalls
import Derived.Test.YtdkbgdjkdalalaaGreatDoorHLawD
namespace Go.Proofs.YtdkbgdjkdalalaaGreatDoor
open Go.RowKit
structure Stp3 where
  k : Int
  a : Int
  b : Int
  x : Nat
  ra : Option Addr
  rn : Nat
  rc : Nat
  roots : List Nat
def StepAt3 (w : World) (V : Nat → Prop) (A : Option Addr) (i : Nat) (s : Stp3) : Prop :=
  ∃ b off, A = some ⟨b, off, none⟩ ∧ b < w.heap.size ∧ V b ∧ w.cell? ⟨b, off + i * 5, none⟩ = some (.int .i64 s.k) ∧ w.cell? ⟨b, off + i * 5 + 1, none⟩ = some (.int .i64 s.a) ∧
    w.cell? ⟨b, off + i * 5 + 2, none⟩ = some (.int .i64 s.b) ∧ w.cell? ⟨b, off + i * 5 + 3, none⟩ = some (.int .u64 (s.x : Int)) ∧ w.cell? ⟨b, off + i * 5 + 4, none⟩ = some (.slice s.ra s.rn s.rc) ∧
    s.x < 18446744073709551616 ∧ WordsAt w V s.ra s.rn s.roots ∧ s.rn ≤ 9223372036854775807 ∧ -9223372036854775808 ≤ s.a ∧ s.a ≤ 9223372036854775807 ∧ -9223372036854775808 ≤ s.b ∧ s.b ≤ 9223372036854775807
def Script3 (w : World) (V : Nat → Prop) (A : Option Addr) (n : Nat) : Prop := ∀ i, i < n → ∃ s, StepAt3 w V A i s
def BothIs (m : Nat) (w : World) (e : Ending) (w' : World) : Prop := ∃ q r, e = .returned (.tuple #[.pointer (some ⟨q, 0, none⟩), .pointer (some ⟨r, 0, none⟩)]) ∧ Mid2 q r m w w'
theorem mid_start2 {q r m : Nat} {w w2 w3 : World} (h1 : HAt w2 q (fun b => w.heap.size ≤ b) m []) (hb1 : Below w.heap.size w w2) (h2 : RefAt w3 r (fun b => w2.heap.size ≤ b) m []) (hb2 : Below w2.heap.size w2 w3) : Mid2 q r m w w3 := mid_start (Below.refl _ _) h1 hb1 h2 hb2
theorem mid_step {q r m : Nat} {w wr w4 : World} {L' : List Ob} (hb : Below w.heap.size w wr) (hs : TwinStep (fun b => b < w.heap.size) q r m L' L' wr w4) : Mid2 q r m w w4 := ⟨L', hs.1, hb.trans (hs.2.below (fun _ hb => hb) hb.size)⟩
end Go.Proofs.YtdkbgdjkdalalaaGreatDoor
