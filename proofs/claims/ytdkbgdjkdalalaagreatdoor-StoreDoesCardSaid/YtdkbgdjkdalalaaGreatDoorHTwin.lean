/-
  A heap of the program's and one of the document's own, side by side in one memory, neither in the other's blocks: what a call on either leaves of both. For the law HeapDoes.
-/
import Derived.Test.YtdkbgdjkdalalaaGreatDoorHRefAlloc
import Derived.Test.YtdkbgdjkdalalaaGreatDoorHAt
namespace Go.Proofs.YtdkbgdjkdalalaaGreatDoor
open Go.RowKit
/-- At q a heap of the program's that holds L, at r one of the document's that holds K; neither lies in the blocks F, which stand. -/
def Twin (F : Nat → Prop) (w : World) (q r m : Nat) (L K : List Ob) : Prop :=
  ∃ S T : Nat → Prop, HAt w q S m L ∧ RefAt w r T m K ∧ (∀ b, S b → T b → False) ∧ (∀ b, S b → ¬ F b) ∧ (∀ b, T b → ¬ F b) ∧ (∀ b, T b → b < w.heap.size) ∧ ∀ b, F b → b < w.heap.size
theorem RowIn.bound {w : World} {S : Nat → Prop} {e : TypeId} {size : Nat} {v : Value} {n : Nat} {xs : List Value} (h : RowIn w S e size v n xs) : RowIn w (fun b => S b ∧ b < w.heap.size) e size v n xs := ⟨h.1, fun g hg => ⟨h.2 g hg, (World.ownsRow.lt h.1 g hg).2⟩⟩
theorem RefAt.bound {w : World} {r : Nat} {S : Nat → Prop} {m : Nat} {L : List Ob} (h : RefAt w r S m L) : RefAt w r (fun b => S b ∧ b < w.heap.size) m L := by
  have hl := h.lt
  obtain ⟨h1, v, P, hP, h2, h3, h4⟩ := h
  exact ⟨⟨h1, hl⟩, v, P, hP, h2, h3.bound, fun p hp => (h4 p hp).bound⟩
theorem Twin.lies {F : Nat → Prop} {w : World} {q r m : Nat} {L K : List Ob} (h : Twin F w q r m L K) : Lies m 1 L := by
  obtain ⟨S, T, h1, _⟩ := h
  exact h1.lies
theorem Twin.below {F : Nat → Prop} {w w' : World} {q r m : Nat} {L K : List Ob} (h : Twin F w q r m L K) (hb : Below w.heap.size w w') : Twin F w' q r m L K := by
  obtain ⟨S, T, h1, h2, h3, h4, h5, h6, h7⟩ := h
  exact ⟨S, T, h1.below hb, h2.below hb, h3, h4, h5, fun b hT => Nat.lt_of_lt_of_le (h6 b hT) hb.size, fun b hF => Nat.lt_of_lt_of_le (h7 b hF) hb.size⟩
theorem Twin.drew {F : Nat → Prop} {w : World} {q r m : Nat} {L K : List Ob} (h : Twin F w q r m L K) : Twin F w.drew q r m L K := h.below (Below.refl _ w).drew
theorem Twin.drewN {F : Nat → Prop} {w : World} {q r m : Nat} {L K : List Ob} (h : Twin F w q r m L K) (n : Nat) : Twin F (w.drewN n) q r m L K := h.below (below_drewN (Below.refl _ w) n)
/-- More blocks stand: those that the memory held when they were made, and that neither heap lies in. -/
theorem Twin.more {F : Nat → Prop} {w : World} {q r m : Nat} {L K : List Ob} (h : Twin F w q r m L K) (o : Obj) : Twin (fun b => F b ∨ b = w.heap.size) (w.alloc o) q r m L K := by
  have hb : Below w.heap.size w (w.alloc o) := (Below.refl _ w).alloc (Nat.le_refl _) o
  obtain ⟨S, T, h1, h2, h3, h4, h5, h6, h7⟩ := h
  refine ⟨_, T, h1.bound.below hb, h2.below hb, fun b hS hT => h3 b hS.1 hT, ?_, ?_, fun b hT => Nat.lt_of_lt_of_le (h6 b hT) hb.size, ?_⟩
  · rintro b ⟨hS, hl⟩ (hF | rfl)
    · exact h4 b hS hF
    · omega
  · rintro b hT (hF | rfl)
    · exact h5 b hT hF
    · have := h6 _ hT; omega
  · rintro b (hF | rfl)
    · exact Nat.lt_of_lt_of_le (h7 b hF) hb.size
    · simp
theorem Twin.less {F G : Nat → Prop} {w : World} {q r m : Nat} {L K : List Ob} (h : Twin F w q r m L K) (hG : ∀ b, G b → F b) : Twin G w q r m L K := by
  obtain ⟨S, T, h1, h2, h3, h4, h5, h6, h7⟩ := h
  exact ⟨S, T, h1, h2, h3, fun b hS hb => h4 b hS (hG b hb), fun b hT hb => h5 b hT (hG b hb), h6, fun b hb => h7 b (hG b hb)⟩
/-- The blocks F stand. -/
def Stands (F : Nat → Prop) (w w' : World) : Prop := Turned (fun b => ¬ F b) w w'
theorem Stands.cell {F : Nat → Prop} {w w' : World} (h : Stands F w w') {p : Addr} (hF : F p.block) (hl : p.block < w.heap.size) : w'.cell? p = w.cell? p := World.cell?_of_block (w := w) (h.block p.block hl fun hn => hn hF)
theorem Stands.below {F : Nat → Prop} {B : Nat} {w w' : World} (h : Stands F w w') (hF : ∀ b, b < B → F b) (hB : B ≤ w.heap.size) : Below B w w' := ⟨h.os, h.tape, h.output, h.size, fun k hk => h.block k (by omega) fun hn => hn (hF k hk)⟩
theorem Stands.of_below {F : Nat → Prop} {w w' : World} (h : Below w.heap.size w w') : Stands F w w' := Turned.of_below h
/-- Behind a call on one of them. -/
def TwinStep (F : Nat → Prop) (q r m : Nat) (L K : List Ob) (w w' : World) : Prop := Twin F w' q r m L K ∧ Stands F w w'
theorem twin_H {F : Nat → Prop} {w w' : World} {q r m : Nat} {S T : Nat → Prop} {L' K : List Ob} (h2 : RefAt w r T m K) (h3 : ∀ b, S b → T b → False) (h4 : ∀ b, S b → ¬ F b) (h5 : ∀ b, T b → ¬ F b) (h6 : ∀ b, T b → b < w.heap.size) (h7 : ∀ b, F b → b < w.heap.size) (hs : HStep q S m L' w w') : TwinStep F q r m L' K w w' := by
  refine ⟨⟨_, T, hs.1, h2.keep fun b hl hT => hs.2.block b hl fun hS => h3 b hS hT, ?_, ?_, h5, fun b hT => Nat.lt_of_lt_of_le (h6 b hT) hs.2.size, fun b hF => Nat.lt_of_lt_of_le (h7 b hF) hs.2.size⟩, hs.2.mono h4⟩
  · rintro b (hS | hb) hT
    · exact h3 b hS hT
    · have := h6 b hT; omega
  · rintro b (hS | hb) hF
    · exact h4 b hS hF
    · have := h7 b hF; omega
theorem twin_R {F : Nat → Prop} {w w' : World} {q r m : Nat} {S T : Nat → Prop} {L K' : List Ob} (h1 : HAt w q S m L) (h3 : ∀ b, S b → T b → False) (h4 : ∀ b, S b → ¬ F b) (h5 : ∀ b, T b → ¬ F b) (h7 : ∀ b, F b → b < w.heap.size) (hs : RStep r T m K' w w') : TwinStep F q r m L K' w w' := by
  refine ⟨⟨(fun b => S b ∧ b < w.heap.size), _, h1.bound.keep fun b hl hS => hs.2.block b hl fun hT => h3 b hS.1 hT, hs.1.bound, ?_, fun b hS => h4 b hS.1, ?_, fun b hT => hT.2, fun b hF => Nat.lt_of_lt_of_le (h7 b hF) hs.2.size⟩, hs.2.mono h5⟩
  · rintro b ⟨hS, hl⟩ ⟨hT | hb, _⟩
    · exact h3 b hS hT
    · omega
  · rintro b ⟨hT | hb, _⟩ hF
    · exact h5 b hT hF
    · have := h7 b hF; omega
def TAlloc (F : Nat → Prop) (q r m : Nat) (a e : Int) (L K : List Ob) (w : World) (x : Ending) (w' : World) : Prop := x = .returned (.tuple #[.int .i64 a, .int .i64 e]) ∧ TwinStep F q r m L K w w'
def TFree (F : Nat → Prop) (q r m : Nat) (e : Int) (L K : List Ob) (w : World) (x : Ending) (w' : World) : Prop := x = .returned (.int .i64 e) ∧ TwinStep F q r m L K w w'
section
variable (F : Nat → Prop) (q r m : Nat) (L K : List Ob) (w : World) (h : Twin F w q r m L K)
include h
theorem t_Alloc (k n : Int) : Calls Tryz.prog 64 #[.pointer (some ⟨q, 0, none⟩), .int .i64 k, .int .i64 n] w (TAlloc F q r m (hAlloc m L k n).1 (hAlloc m L k n).2.1 (hAlloc m L k n).2.2 K w) := by
  obtain ⟨S, T, h1, h2, h3, h4, h5, h6, h7⟩ := h
  exact (g_Alloc q S m L w h1 k n).mono fun e w' ⟨he, hs⟩ => ⟨he, twin_H h2 h3 h4 h5 h6 h7 hs⟩
theorem t_Free (a : Int) : Calls Tryz.prog 102 #[.pointer (some ⟨q, 0, none⟩), .int .i64 a] w (TFree F q r m (hFree L a).1 (hFree L a).2 K w) := by
  obtain ⟨S, T, h1, h2, h3, h4, h5, h6, h7⟩ := h
  exact (g_Free q S m L w h1 a).mono fun e w' ⟨he, hs⟩ => ⟨he, twin_H h2 h3 h4 h5 h6 h7 hs⟩
theorem t_Set (a i : Int) (x : Nat) (hx : x < 18446744073709551616) : Calls Tryz.prog 71 #[.pointer (some ⟨q, 0, none⟩), .int .i64 a, .int .i64 i, .int .u64 (x : Int)] w (TFree F q r m (hSet L a i x).1 (hSet L a i x).2 K w) := by
  obtain ⟨S, T, h1, h2, h3, h4, h5, h6, h7⟩ := h
  exact (g_Set q S m L w h1 a i x hx).mono fun e w' ⟨he, hs⟩ => ⟨he, twin_H h2 h3 h4 h5 h6 h7 hs⟩
theorem s_Alloc (k n : Int) (hl : Lies m 1 K) (hm : m ≤ 65536) (hK : K.length ≤ 65536) : Calls Tryz.prog 68 #[.pointer (some ⟨r, 0, none⟩), .int .i64 k, .int .i64 n] w (TAlloc F q r m (hAlloc m K k n).1 (hAlloc m K k n).2.1 L (hAlloc m K k n).2.2 w) := by
  obtain ⟨S, T, h1, h2, h3, h4, h5, h6, h7⟩ := h
  exact (ref_Alloc r T m K k n w h2 hl hm hK).mono fun e w' ⟨he, hs⟩ => ⟨he, twin_R h1 h3 h4 h5 h7 hs⟩
theorem s_Free (a : Int) (hl : Lies m 1 K) (hK : K.length ≤ 65536) : Calls Tryz.prog 80 #[.pointer (some ⟨r, 0, none⟩), .int .i64 a] w (TFree F q r m (hFree K a).1 L (hFree K a).2 w) := by
  obtain ⟨S, T, h1, h2, h3, h4, h5, h6, h7⟩ := h
  exact (ref_Free r T m K a w h2 hl hK).mono fun e w' ⟨he, hs⟩ => ⟨he, twin_R h1 h3 h4 h5 h7 hs⟩
theorem s_Set (a i : Int) (x : Nat) (hl : Lies m 1 K) (hK : K.length ≤ 65536) (hf : ∀ o ∈ K, o.fs.length ≤ 65536) : Calls Tryz.prog 72 #[.pointer (some ⟨r, 0, none⟩), .int .i64 a, .int .i64 i, .int .u64 (x : Int)] w (TFree F q r m (hSet K a i x).1 L (hSet K a i x).2 w) := by
  obtain ⟨S, T, h1, h2, h3, h4, h5, h6, h7⟩ := h
  exact (ref_Set r T m K a i x w h2 hl hK hf).mono fun e w' ⟨he, hs⟩ => ⟨he, twin_R h1 h3 h4 h5 h7 hs⟩
theorem s_Get (a i : Int) (hl : Lies m 1 K) (hK : K.length ≤ 65536) (hf : ∀ o ∈ K, o.fs.length ≤ 65536) : Calls Tryz.prog 44 #[.pointer (some ⟨r, 0, none⟩), .int .i64 a, .int .i64 i] w (TwoSame (.int .u64 ((hGet K a i).1 : Nat)) (hGet K a i).2 w) := by
  obtain ⟨S, T, h1, h2, _⟩ := h
  exact ref_Get r T m K a i w h2 hl hK hf
theorem s_Next (a : Int) (hK : K.length ≤ 65536) : Calls Tryz.prog 78 #[.pointer (some ⟨r, 0, none⟩), .int .i64 a] w (OneSame (nextOb K a.toNat : Nat) w) := by
  obtain ⟨S, T, h1, h2, _⟩ := h
  exact ref_Next r T m K a w h2 hK
theorem s_Room (hl : Lies m 1 K) (hm : m ≤ 65536) (hK : K.length ≤ 65536) : Calls Tryz.prog 52 #[.pointer (some ⟨r, 0, none⟩)] w (GapIs (roomOf m K) (longOf m K) w) := by
  obtain ⟨S, T, h1, h2, _⟩ := h
  exact ref_Room r T m K w h2 hl hm hK
theorem s_Find (a : Int) (hK : K.length ≤ 65536) : Calls Tryz.prog 21 #[.pointer (some ⟨r, 0, none⟩), .int .i64 a] w (FindIs K a w) := by
  obtain ⟨S, T, h1, h2, _⟩ := h
  exact ref_Find r T m K a w h2 hK
theorem t_Get (a i : Int) : Calls Tryz.prog 43 #[.pointer (some ⟨q, 0, none⟩), .int .i64 a, .int .i64 i] w (TwoSame (.int .u64 ((hGet L a i).1 : Nat)) (hGet L a i).2 w) := by
  obtain ⟨S, T, h1, _⟩ := h
  exact g_Get q S m L w h1 a i
theorem t_Kind (a : Int) : Calls Tryz.prog 60 #[.pointer (some ⟨q, 0, none⟩), .int .i64 a] w (TwoSame (.int .i64 ((hKind L a).1 : Nat)) (hKind L a).2 w) := by
  obtain ⟨S, T, h1, _⟩ := h
  exact g_Kind q S m L w h1 a
theorem t_Size (a : Int) : Calls Tryz.prog 61 #[.pointer (some ⟨q, 0, none⟩), .int .i64 a] w (TwoSame (.int .i64 ((hSize L a).1 : Nat)) (hSize L a).2 w) := by
  obtain ⟨S, T, h1, _⟩ := h
  exact g_Size q S m L w h1 a
theorem t_Next (a : Int) (hT : Tab w) (ha : a ≤ 9223372036854775807) : Calls Tryz.prog 101 #[.pointer (some ⟨q, 0, none⟩), .int .i64 a] w (OneSame (nextOb L a.toNat : Nat) w) := by
  obtain ⟨S, T, h1, _⟩ := h
  exact g_Next q S m L w h1 a hT ha
theorem t_Words : Calls Tryz.prog 63 #[.pointer (some ⟨q, 0, none⟩)] w (OneSame (m : Nat) w) := by
  obtain ⟨S, T, h1, _⟩ := h
  exact g_Words q S m L w h1
theorem t_Room : Calls Tryz.prog 56 #[.pointer (some ⟨q, 0, none⟩)] w (IntMade (roomOf m L : Nat) w) := by
  obtain ⟨S, T, h1, _⟩ := h
  exact g_Room q S m L w h1
end
end Go.Proofs.YtdkbgdjkdalalaaGreatDoor
