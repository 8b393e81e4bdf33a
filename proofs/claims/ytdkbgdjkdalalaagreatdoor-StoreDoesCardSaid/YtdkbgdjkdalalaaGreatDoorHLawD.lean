/-
  The walk of the law HeapDoes: whatever the input, it returns true and leaves what was there as it was. Condition: the table of math/bits holds what its initialiser lays.
-/
import Derived.Test.YtdkbgdjkdalalaaGreatDoorHSame
namespace Go.Proofs.YtdkbgdjkdalalaaGreatDoor
open Go.RowKit
/-- A heap apart from the blocks K, which stand. -/
def Apart (K : Nat → Prop) (w : World) (q m : Nat) : Prop := ∃ S L, HAt w q S m L ∧ (∀ b, S b → ¬ K b) ∧ ∀ b, K b → b < w.heap.size
def ApartStep (K : Nat → Prop) (q m : Nat) (w w' : World) : Prop := Apart K w' q m ∧ Stands K w w'
theorem apart_step {K : Nat → Prop} {w w' : World} {q m : Nat} {S : Nat → Prop} {L' : List Ob} (h2 : ∀ b, S b → ¬ K b) (h3 : ∀ b, K b → b < w.heap.size) (hs : HStep q S m L' w w') : ApartStep K q m w w' := by
  refine ⟨⟨_, L', hs.1, ?_, fun b hb => Nat.lt_of_lt_of_le (h3 b hb) hs.2.size⟩, hs.2.mono h2⟩
  rintro b (hS | hb) hK
  · exact h2 b hS hK
  · have := h3 b hK; omega
def SomeFree (K : Nat → Prop) (q m : Nat) (w : World) (x : Ending) (w' : World) : Prop := ∃ e : Int, x = .returned (.int .i64 e) ∧ ApartStep K q m w w'
def SomeAlloc (K : Nat → Prop) (q m : Nat) (w : World) (x : Ending) (w' : World) : Prop := ∃ a e : Int, x = .returned (.tuple #[.int .i64 a, .int .i64 e]) ∧ ApartStep K q m w w'
def SomeNext (w : World) (x : Ending) (w' : World) : Prop := ∃ n : Nat, x = .returned (.int .i64 (n : Int)) ∧ w = w'
section
variable (K : Nat → Prop) (q m : Nat) (w : World) (h : Apart K w q m)
include h
theorem o_Alloc (k n : Int) : Calls Tryz.prog 64 #[.pointer (some ⟨q, 0, none⟩), .int .i64 k, .int .i64 n] w (SomeAlloc K q m w) := by
  obtain ⟨S, L, h1, h2, h3⟩ := h
  exact (g_Alloc q S m L w h1 k n).mono fun e w' ⟨he, hs⟩ => ⟨_, _, he, apart_step h2 h3 hs⟩
theorem o_Free (a : Int) : Calls Tryz.prog 102 #[.pointer (some ⟨q, 0, none⟩), .int .i64 a] w (SomeFree K q m w) := by
  obtain ⟨S, L, h1, h2, h3⟩ := h
  exact (g_Free q S m L w h1 a).mono fun e w' ⟨he, hs⟩ => ⟨_, he, apart_step h2 h3 hs⟩
theorem o_Set (a : Int) : Calls Tryz.prog 71 #[.pointer (some ⟨q, 0, none⟩), .int .i64 a, .int .i64 0, .int .u64 77] w (SomeFree K q m w) := by
  obtain ⟨S, L, h1, h2, h3⟩ := h
  exact (g_Set q S m L w h1 a 0 77 (by decide)).mono fun e w' ⟨he, hs⟩ => ⟨_, he, apart_step h2 h3 hs⟩
theorem o_Next (hT : Tab w) : Calls Tryz.prog 101 #[.pointer (some ⟨q, 0, none⟩), .int .i64 0] w (SomeNext w) := by
  obtain ⟨S, L, h1, h2, h3⟩ := h
  exact (g_Next q S m L w h1 0 hT (by decide)).mono fun e w' ⟨he, hw⟩ => ⟨_, he, hw⟩
end
/-- In the midst of the law: both heaps hold the same; all that was there stands. -/
def Mid2 (q r m : Nat) (w wr : World) : Prop := ∃ L, Twin (fun b => b < w.heap.size) wr q r m L L ∧ Below w.heap.size w wr
theorem Mid2.drew {q r m : Nat} {w wr : World} (h : Mid2 q r m w wr) : Mid2 q r m w wr.drew := by
  obtain ⟨L, h1, h2⟩ := h
  exact ⟨L, h1.drew, h2.drew⟩
theorem mid_start {q r m : Nat} {w w1 w2 w3 : World} (hb : Below w.heap.size w w1) (h1 : HAt w2 q (fun b => w1.heap.size ≤ b) m []) (hb1 : Below w1.heap.size w1 w2) (h2 : RefAt w3 r (fun b => w2.heap.size ≤ b) m []) (hb2 : Below w2.heap.size w2 w3) : Mid2 q r m w w3 := by
  have z1 := hb.size
  have z2 := hb1.size
  refine ⟨[], ⟨_, _, h1.bound.below hb2, h2.bound, ?_, ?_, ?_, fun b hT => hT.2, fun b hF => Nat.lt_of_lt_of_le hF (Nat.le_trans z1 (Nat.le_trans z2 hb2.size))⟩, hb.trans ((hb1.trans (hb2.mono z2)).mono z1)⟩
  · rintro b ⟨_, hl⟩ ⟨hT, _⟩
    omega
  · rintro b ⟨hS, _⟩ hF
    omega
  · rintro b ⟨hT, _⟩ hF
    omega
/-- The copy goes on in the old one's place; the old one is apart. -/
theorem mid_copy {q r m : Nat} {w wr w1 : World} {L : List Ob} {q' : Nat} (h : Twin (fun b => b < w.heap.size) wr q r m L L) (hb : Below w.heap.size w wr) (h1 : HAt w1 q' (fun b => wr.heap.size ≤ b) m L) (hb1 : Below wr.heap.size wr w1) :
    ∃ K : Nat → Prop, Apart K w1 q m ∧ (∀ b, b < w.heap.size → K b) ∧ ∀ w4, Stands K w1 w4 → Mid2 q' r m w w4 := by
  obtain ⟨S, T, g1, g2, g3, g4, g5, g6, g7⟩ := h
  have z := hb.size
  have z1 := hb1.size
  refine ⟨fun b => b < w.heap.size ∨ T b ∨ (wr.heap.size ≤ b ∧ b < w1.heap.size), ⟨_, L, g1.bound.below hb1, ?_, ?_⟩, fun b hF => .inl hF, fun w4 hs => ?_⟩
  · rintro b ⟨hS, hl⟩ (hw | hT | ⟨hc, _⟩)
    · exact g4 b hS hw
    · exact g3 b hS hT
    · omega
  · rintro b (hw | hT | ⟨_, hc⟩)
    · omega
    · have := g6 b hT; omega
    · exact hc
  · have hk : ∀ b, (b < w.heap.size ∨ T b ∨ (wr.heap.size ≤ b ∧ b < w1.heap.size)) → b < w1.heap.size → w4.heap[b]? = w1.heap[b]? := fun b hK hl => hs.block b hl fun hn => hn hK
    have z4 := hs.size
    refine ⟨L, ⟨(fun b => wr.heap.size ≤ b ∧ b < w1.heap.size), T, h1.bound.keep fun b hl hS => hk b (.inr (.inr hS)) hl, (g2.below hb1).keep fun b hl hT => hk b (.inr (.inl hT)) hl, ?_, ?_, g5, fun b hT => ?_, fun b hF => ?_⟩, ?_⟩
    · rintro b ⟨hS, _⟩ hT
      have := g6 b hT; omega
    · rintro b ⟨hS, _⟩ hF
      have : b < w.heap.size := hF
      omega
    · have := g6 b hT; omega
    · have : b < w.heap.size := hF
      omega
    · exact (hb.trans (hb1.mono z)).trans (hs.below (fun b hb => .inl hb) (by omega))
end Go.Proofs.YtdkbgdjkdalalaaGreatDoor
