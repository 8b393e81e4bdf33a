/-
  The heap's calls at a pointer, where all that the heap owns lies among some blocks; and the law's own first look.
-/
import Derived.Test.YtdkbgdjkdalalaaGreatDoorHApi
namespace Go.Proofs.YtdkbgdjkdalalaaGreatDoor
open Go.RowKit
/-- At block q lies a heap of these objects, and its blocks are among S. -/
def HAt (w : World) (q : Nat) (S : Nat → Prop) (words : Nat) (L : List Ob) : Prop := ∃ Y : Lay, Y.hb = q ∧ HeapIs w Y words L ∧ ∀ b, Y.own b → S b
theorem HAt.keep {w w' : World} {q : Nat} {S : Nat → Prop} {words : Nat} {L : List Ob} (h : HAt w q S words L) (hk : ∀ b, b < w.heap.size → S b → w'.heap[b]? = w.heap[b]?) : HAt w' q S words L := by
  obtain ⟨Y, h1, h2, h3⟩ := h
  exact ⟨Y, h1, h2.keep fun b hb => hk b (h2.lt b hb) (h3 b hb), h3⟩
theorem HAt.below {w w' : World} {q : Nat} {S : Nat → Prop} {words : Nat} {L : List Ob} (h : HAt w q S words L) (hb : Below w.heap.size w w') : HAt w' q S words L := h.keep fun b hl _ => hb.block b hl
theorem HAt.mono {w : World} {q : Nat} {S T : Nat → Prop} {words : Nat} {L : List Ob} (h : HAt w q S words L) (hT : ∀ b, S b → T b) : HAt w q T words L := by
  obtain ⟨Y, h1, h2, h3⟩ := h
  exact ⟨Y, h1, h2, fun b hb => hT b (h3 b hb)⟩
theorem HAt.drew {w : World} {q : Nat} {S : Nat → Prop} {words : Nat} {L : List Ob} (h : HAt w q S words L) : HAt w.drew q S words L := h.keep fun _ _ _ => rfl
theorem HAt.lies {w : World} {q : Nat} {S : Nat → Prop} {words : Nat} {L : List Ob} (h : HAt w q S words L) : Lies words 1 L := by
  obtain ⟨Y, _, ⟨cs, ms, rs, _, hr⟩, _⟩ := h
  exact hr.lies
/-- Behind a call on the heap at q, whose blocks were among S. -/
def HStep (q : Nat) (S : Nat → Prop) (words : Nat) (L : List Ob) (w w' : World) : Prop := HAt w' q (fun b => S b ∨ w.heap.size ≤ b) words L ∧ Turned S w w'
theorem HStep.of {Y : Lay} {q : Nat} {S : Nat → Prop} {words : Nat} {L : List Ob} {w w' : World} (h : HeapStep Y words L w w') (hq : Y.hb = q) (hS : ∀ b, Y.own b → S b) : HStep q S words L w w' := by
  obtain ⟨Y', h1, h2, h3, h4⟩ := h
  refine ⟨⟨Y', h1.trans hq, h2, fun b hb => ?_⟩, h3.mono hS⟩
  rcases h4 b hb with h | h
  · exact .inl (hS b h)
  · exact .inr h
def GAlloc (q : Nat) (S : Nat → Prop) (words : Nat) (r : Int × Int × List Ob) (w : World) (e : Ending) (w' : World) : Prop := e = .returned (.tuple #[.int .i64 r.1, .int .i64 r.2.1]) ∧ HStep q S words r.2.2 w w'
def GFree (q : Nat) (S : Nat → Prop) (words : Nat) (r : Int × List Ob) (w : World) (e : Ending) (w' : World) : Prop := e = .returned (.int .i64 r.1) ∧ HStep q S words r.2 w w'
section
variable (q : Nat) (S : Nat → Prop) (words : Nat) (L : List Ob) (w : World) (h : HAt w q S words L)
include h
theorem g_Alloc (k n : Int) : Calls Tryz.prog 64 #[.pointer (some ⟨q, 0, none⟩), .int .i64 k, .int .i64 n] w (GAlloc q S words (hAlloc words L k n) w) := by
  obtain ⟨Y, rfl, h2, h3⟩ := h
  exact (heap_Alloc Y words L k n w h2).mono fun e w' ⟨he, hs⟩ => ⟨he, .of hs rfl h3⟩
theorem g_Free (a : Int) : Calls Tryz.prog 102 #[.pointer (some ⟨q, 0, none⟩), .int .i64 a] w (GFree q S words (hFree L a) w) := by
  obtain ⟨Y, rfl, h2, h3⟩ := h
  exact (heap_Free Y words L a w h2).mono fun e w' ⟨he, hs⟩ => ⟨he, .of hs rfl h3⟩
theorem g_Set (a i : Int) (x : Nat) (hx : x < 18446744073709551616) : Calls Tryz.prog 71 #[.pointer (some ⟨q, 0, none⟩), .int .i64 a, .int .i64 i, .int .u64 (x : Int)] w (GFree q S words (hSet L a i x) w) := by
  obtain ⟨Y, rfl, h2, h3⟩ := h
  exact (heap_Set Y words L a i x hx w h2).mono fun e w' ⟨he, hs⟩ => ⟨he, .of hs rfl h3⟩
theorem g_Get (a i : Int) : Calls Tryz.prog 43 #[.pointer (some ⟨q, 0, none⟩), .int .i64 a, .int .i64 i] w (TwoSame (.int .u64 ((hGet L a i).1 : Nat)) (hGet L a i).2 w) := by
  obtain ⟨Y, rfl, h2, h3⟩ := h
  exact heap_Get Y words L a i w h2
theorem g_Kind (a : Int) : Calls Tryz.prog 60 #[.pointer (some ⟨q, 0, none⟩), .int .i64 a] w (TwoSame (.int .i64 ((hKind L a).1 : Nat)) (hKind L a).2 w) := by
  obtain ⟨Y, rfl, h2, h3⟩ := h
  exact heap_Kind Y words L a w h2
theorem g_Size (a : Int) : Calls Tryz.prog 61 #[.pointer (some ⟨q, 0, none⟩), .int .i64 a] w (TwoSame (.int .i64 ((hSize L a).1 : Nat)) (hSize L a).2 w) := by
  obtain ⟨Y, rfl, h2, h3⟩ := h
  exact heap_Size Y words L a w h2
theorem g_Next (a : Int) (hT : Tab w) (ha : a ≤ 9223372036854775807) : Calls Tryz.prog 101 #[.pointer (some ⟨q, 0, none⟩), .int .i64 a] w (OneSame (nextOb L a.toNat : Nat) w) := by
  obtain ⟨Y, rfl, h2, h3⟩ := h
  exact heap_Next Y words L a w h2 hT ha
theorem g_Words : Calls Tryz.prog 63 #[.pointer (some ⟨q, 0, none⟩)] w (OneSame (words : Nat) w) := by
  obtain ⟨Y, rfl, h2, h3⟩ := h
  exact heap_Words Y words L w h2
theorem g_Room : Calls Tryz.prog 56 #[.pointer (some ⟨q, 0, none⟩)] w (IntMade (roomOf words L : Nat) w) := by
  obtain ⟨Y, rfl, h2, h3⟩ := h
  exact heap_Room Y words L w h2
end
/-- A heap of one's own is returned. -/
def GMade (words : Nat) (L : List Ob) (w : World) (e : Ending) (w' : World) : Prop :=
  ∃ q : Nat, e = .returned (.pointer (some ⟨q, 0, none⟩)) ∧ HAt w' q (fun b => w.heap.size ≤ b) words L ∧ Below w.heap.size w w'
theorem g_New (n : Nat) (h2 : 2 ≤ n) (hn : n ≤ 65536) (w : World) : Calls Tryz.prog 28 #[.int .i64 (n : Int)] w (GMade n [] w) :=
  (heap_New n h2 hn w).mono fun _ _ ⟨Y, he, h1, h2, h3⟩ => ⟨Y.hb, he, ⟨Y, rfl, h1, h3⟩, h2⟩
theorem g_NewI (n : Int) (h2 : 2 ≤ n) (hn : n ≤ 65536) (w : World) : Calls Tryz.prog 28 #[.int .i64 n] w (GMade n.toNat [] w) := by
  obtain ⟨m, rfl⟩ := Int.eq_ofNat_of_zero_le (show 0 ≤ n by omega)
  rw [Int.toNat_natCast]
  exact g_New m (by omega) (by omega) w
/-- Where all that a law has made lies from block B on. -/
def From (B : Nat) (b : Nat) : Prop := B ≤ b
theorem HStep.from {q B : Nat} {words : Nat} {L : List Ob} {w w' : World} (h : HStep q (From B) words L w w') (hB : B ≤ w.heap.size) : HAt w' q (From B) words L ∧ Below B w w' := by
  refine ⟨h.1.mono fun b hb => ?_, h.2.os, h.2.tape, h.2.output, h.2.size, fun k hk => h.2.block k (by omega) (fun e => ?_)⟩
  · rcases hb with hb | hb
    · exact hb
    · exact Nat.le_trans hB hb
  · have : B ≤ k := e
    omega
theorem HAt.bound {w : World} {q : Nat} {S : Nat → Prop} {words : Nat} {L : List Ob} (h : HAt w q S words L) : HAt w q (fun b => S b ∧ b < w.heap.size) words L := by
  obtain ⟨Y, h1, h2, h3⟩ := h
  exact ⟨Y, h1, h2, fun b hb => ⟨h3 b hb, h2.lt b hb⟩⟩
def BAlloc (q B words : Nat) (a err : Int) (L : List Ob) (w : World) (e : Ending) (w' : World) : Prop := e = .returned (.tuple #[.int .i64 a, .int .i64 err]) ∧ HAt w' q (From B) words L ∧ Below B w w'
def BFree (q B words : Nat) (err : Int) (L : List Ob) (w : World) (e : Ending) (w' : World) : Prop := e = .returned (.int .i64 err) ∧ HAt w' q (From B) words L ∧ Below B w w'
theorem b_Alloc (q B words : Nat) (L : List Ob) (w : World) (h : HAt w q (From B) words L) (hB : B ≤ w.heap.size) (k n : Int) (a err : Int) (L' : List Ob) (hv : hAlloc words L k n = (a, err, L')) :
    Calls Tryz.prog 64 #[.pointer (some ⟨q, 0, none⟩), .int .i64 k, .int .i64 n] w (BAlloc q B words a err L' w) := by
  have h1 := g_Alloc q (From B) words L w h k n
  rw [hv] at h1
  exact h1.mono fun e w' ⟨he, hs⟩ => ⟨he, hs.from hB⟩
theorem b_Free (q B words : Nat) (L : List Ob) (w : World) (h : HAt w q (From B) words L) (hB : B ≤ w.heap.size) (a : Int) (err : Int) (L' : List Ob) (hv : hFree L a = (err, L')) :
    Calls Tryz.prog 102 #[.pointer (some ⟨q, 0, none⟩), .int .i64 a] w (BFree q B words err L' w) := by
  have h1 := g_Free q (From B) words L w h a
  rw [hv] at h1
  exact h1.mono fun e w' ⟨he, hs⟩ => ⟨he, hs.from hB⟩
theorem b_Set (q B words : Nat) (L : List Ob) (w : World) (h : HAt w q (From B) words L) (hB : B ≤ w.heap.size) (a i : Int) (x : Int) (hx0 : 0 ≤ x) (hx : x < 18446744073709551616) (err : Int) (L' : List Ob) (hv : hSet L a i x.toNat = (err, L')) :
    Calls Tryz.prog 71 #[.pointer (some ⟨q, 0, none⟩), .int .i64 a, .int .i64 i, .int .u64 x] w (BFree q B words err L' w) := by
  have h1 := g_Set q (From B) words L w h a i x.toNat (by omega)
  rw [hv, show ((x.toNat : Nat) : Int) = x by omega] at h1
  exact h1.mono fun e w' ⟨he, hs⟩ => ⟨he, hs.from hB⟩
def YesMade (b : Bool) (w : World) (e : Ending) (w' : World) : Prop := e = .returned (.bool b) ∧ Below w.heap.size w w'
theorem aw1 : hAlloc 10 [] 5 1 = (1, 0, [⟨1, 5, [1]⟩]) := rfl
theorem aw2 : hAlloc 10 [⟨1, 5, [1]⟩] 6 3 = (3, 0, [⟨1, 5, [1]⟩, ⟨3, 6, [1, 1, 1]⟩]) := rfl
theorem aw3 : hSet [⟨1, 5, [1]⟩, ⟨3, 6, [1, 1, 1]⟩] 3 0 (9 : Int).toNat = (0, [⟨1, 5, [1]⟩, ⟨3, 6, [9, 1, 1]⟩]) := rfl
theorem aw4 : hFree [⟨1, 5, [1]⟩, ⟨3, 6, [9, 1, 1]⟩] 1 = (0, [⟨3, 6, [9, 1, 1]⟩]) := rfl
theorem aw_get (q : Nat) (S : Nat → Prop) (w : World) (h : HAt w q S 10 [⟨1, 5, [1]⟩, ⟨3, 6, [9, 1, 1]⟩]) : Calls Tryz.prog 43 #[.pointer (some ⟨q, 0, none⟩), .int .i64 3, .int .i64 0] w (TwoSame (.int .u64 9) 0 w) := g_Get q S 10 _ w h 3 0
theorem aw_kind (q : Nat) (S : Nat → Prop) (w : World) (h : HAt w q S 10 [⟨1, 5, [1]⟩, ⟨3, 6, [9, 1, 1]⟩]) : Calls Tryz.prog 60 #[.pointer (some ⟨q, 0, none⟩), .int .i64 3] w (TwoSame (.int .i64 6) 0 w) := g_Kind q S 10 _ w h 3
theorem aw_size (q : Nat) (S : Nat → Prop) (w : World) (h : HAt w q S 10 [⟨1, 5, [1]⟩, ⟨3, 6, [9, 1, 1]⟩]) : Calls Tryz.prog 61 #[.pointer (some ⟨q, 0, none⟩), .int .i64 3] w (TwoSame (.int .i64 3) 0 w) := g_Size q S 10 _ w h 3
theorem aw_room (q : Nat) (S : Nat → Prop) (w : World) (h : HAt w q S 10 [⟨3, 6, [9, 1, 1]⟩]) : Calls Tryz.prog 56 #[.pointer (some ⟨q, 0, none⟩)] w (IntMade 5 w) := g_Room q S 10 _ w h
theorem aw_room2 (q : Nat) (S : Nat → Prop) (w : World) (h : HAt w q S 10 [⟨1, 5, [1]⟩, ⟨3, 6, [9, 1, 1]⟩]) : Calls Tryz.prog 56 #[.pointer (some ⟨q, 0, none⟩)] w (IntMade 3 w) := g_Room q S 10 _ w h
theorem aw_next (q : Nat) (S : Nat → Prop) (w : World) (h : HAt w q S 10 [⟨3, 6, [9, 1, 1]⟩]) (hT : Tab w) : Calls Tryz.prog 101 #[.pointer (some ⟨q, 0, none⟩), .int .i64 2] w (OneSame 3 w) := g_Next q S 10 _ w h 2 hT (by decide)
theorem aw_words (q : Nat) (S : Nat → Prop) (w : World) (h : HAt w q S 10 [⟨3, 6, [9, 1, 1]⟩]) : Calls Tryz.prog 63 #[.pointer (some ⟨q, 0, none⟩)] w (OneSame 10 w) := g_Words q S 10 _ w h
end Go.Proofs.YtdkbgdjkdalalaaGreatDoor
