/-
  The heap's calls at a pointer, where all that the heap owns lies among some blocks; and the law's own first look.
-/
import Derived.Test.YtbmkjlpjgkfjcaaDoorHApi
namespace Go.Proofs.YtbmkjlpjgkfjcaaDoor
open Go.RowKit
/-- At block q lies a heap of these objects, and its blocks are among S. -/
def HAt (w : World) (q : Nat) (S : Nat → Prop) (words : Nat) (L : List Ob) : Prop := ∃ Y : Lay, Y.hb = q ∧ HeapIs w Y words L ∧ ∀ b, Y.own b → S b
theorem HAt.keep {w w' : World} {q : Nat} {S : Nat → Prop} {words : Nat} {L : List Ob} (h : HAt w q S words L) (hk : ∀ b, b < w.heap.size → S b → w'.heap[b]? = w.heap[b]?) : HAt w' q S words L := by
  obtain ⟨Y, h1, h2, h3⟩ := h
  exact ⟨Y, h1, h2.keep fun b hb => hk b (h2.lt b hb) (h3 b hb), h3⟩
theorem HAt.below {w w' : World} {q : Nat} {S : Nat → Prop} {words : Nat} {L : List Ob} (h : HAt w q S words L) (hb : Below w.heap.size w w') : HAt w' q S words L := h.keep fun b hl _ => hb.block b hl
theorem HAt.mono {w : World} {q : Nat} {S T : Nat → Prop} {words : Nat} {L : List Ob} (h : HAt w q S words L) (hT : ∀ b, S b → T b) : HAt w q T words L := by
  obtain ⟨Y, h1, h2, h3⟩ := h
  exact ⟨Y, h1, h2, fun b hb => hT b (h3 b hb)⟩
theorem HAt.drew {w : World} {q : Nat} {S : Nat → Prop} {words : Nat} {L : List Ob} (h : HAt w q S words L) : HAt w.drew q S words L := h.keep fun _ _ _ => rfl
theorem HAt.lies {w : World} {q : Nat} {S : Nat → Prop} {words : Nat} {L : List Ob} (h : HAt w q S words L) : Lies words 1 L := by
  obtain ⟨Y, _, ⟨cs, ms, rs, _, hr⟩, _⟩ := h
  exact hr.lies
/-- Behind a call on the heap at q, whose blocks were among S. -/
def HStep (q : Nat) (S : Nat → Prop) (words : Nat) (L : List Ob) (w w' : World) : Prop := HAt w' q (fun b => S b ∨ w.heap.size ≤ b) words L ∧ Turned S w w'
theorem HStep.of {Y : Lay} {q : Nat} {S : Nat → Prop} {words : Nat} {L : List Ob} {w w' : World} (h : HeapStep Y words L w w') (hq : Y.hb = q) (hS : ∀ b, Y.own b → S b) : HStep q S words L w w' := by
  obtain ⟨Y', h1, h2, h3, h4⟩ := h
  refine ⟨⟨Y', h1.trans hq, h2, fun b hb => ?_⟩, h3.mono hS⟩
  rcases h4 b hb with h | h
  · exact .inl (hS b h)
  · exact .inr h
def GAlloc (q : Nat) (S : Nat → Prop) (words : Nat) (r : Int × Int × List Ob) (w : World) (e : Ending) (w' : World) : Prop := e = .returned (.tuple #[.int .i64 r.1, .int .i64 r.2.1]) ∧ HStep q S words r.2.2 w w'
def GFree (q : Nat) (S : Nat → Prop) (words : Nat) (r : Int × List Ob) (w : World) (e : Ending) (w' : World) : Prop := e = .returned (.int .i64 r.1) ∧ HStep q S words r.2 w w'
section
variable (q : Nat) (S : Nat → Prop) (words : Nat) (L : List Ob) (w : World) (h : HAt w q S words L)
include h
theorem g_Alloc (k n : Int) : Calls Tryd.prog 18 #[.pointer (some ⟨q, 0, none⟩), .int .i64 k, .int .i64 n] w (GAlloc q S words (hAlloc words L k n) w) := by
  obtain ⟨Y, rfl, h2, h3⟩ := h
  exact (heap_Alloc Y words L k n w h2).mono fun e w' ⟨he, hs⟩ => ⟨he, .of hs rfl h3⟩
theorem g_Free (a : Int) : Calls Tryd.prog 19 #[.pointer (some ⟨q, 0, none⟩), .int .i64 a] w (GFree q S words (hFree L a) w) := by
  obtain ⟨Y, rfl, h2, h3⟩ := h
  exact (heap_Free Y words L a w h2).mono fun e w' ⟨he, hs⟩ => ⟨he, .of hs rfl h3⟩
theorem g_Set (a i : Int) (x : Nat) (hx : x < 18446744073709551616) : Calls Tryd.prog 21 #[.pointer (some ⟨q, 0, none⟩), .int .i64 a, .int .i64 i, .int .u64 (x : Int)] w (GFree q S words (hSet L a i x) w) := by
  obtain ⟨Y, rfl, h2, h3⟩ := h
  exact (heap_Set Y words L a i x hx w h2).mono fun e w' ⟨he, hs⟩ => ⟨he, .of hs rfl h3⟩
theorem g_Get (a i : Int) : Calls Tryd.prog 23 #[.pointer (some ⟨q, 0, none⟩), .int .i64 a, .int .i64 i] w (TwoSame (.int .u64 ((hGet L a i).1 : Nat)) (hGet L a i).2 w) := by
  obtain ⟨Y, rfl, h2, h3⟩ := h
  exact heap_Get Y words L a i w h2
theorem g_Kind (a : Int) : Calls Tryd.prog 44 #[.pointer (some ⟨q, 0, none⟩), .int .i64 a] w (TwoSame (.int .i64 ((hKind L a).1 : Nat)) (hKind L a).2 w) := by
  obtain ⟨Y, rfl, h2, h3⟩ := h
  exact heap_Kind Y words L a w h2
theorem g_Size (a : Int) : Calls Tryd.prog 49 #[.pointer (some ⟨q, 0, none⟩), .int .i64 a] w (TwoSame (.int .i64 ((hSize L a).1 : Nat)) (hSize L a).2 w) := by
  obtain ⟨Y, rfl, h2, h3⟩ := h
  exact heap_Size Y words L a w h2
theorem g_Next (a : Int) (hT : Tab w) (ha : a ≤ 9223372036854775807) : Calls Tryd.prog 20 #[.pointer (some ⟨q, 0, none⟩), .int .i64 a] w (OneSame (nextOb L a.toNat : Nat) w) := by
  obtain ⟨Y, rfl, h2, h3⟩ := h
  exact heap_Next Y words L a w h2 hT ha
theorem g_Words : Calls Tryd.prog 72 #[.pointer (some ⟨q, 0, none⟩)] w (OneSame (words : Nat) w) := by
  obtain ⟨Y, rfl, h2, h3⟩ := h
  exact heap_Words Y words L w h2
theorem g_Room : Calls Tryd.prog 70 #[.pointer (some ⟨q, 0, none⟩)] w (IntMade (roomOf words L : Nat) w) := by
  obtain ⟨Y, rfl, h2, h3⟩ := h
  exact heap_Room Y words L w h2
theorem g_Longest : Calls Tryd.prog 71 #[.pointer (some ⟨q, 0, none⟩)] w (IntMade (longOf words L : Nat) w) := by
  obtain ⟨Y, rfl, h2, h3⟩ := h
  exact heap_Longest Y words L w h2
end
/-- A heap of one's own is returned. -/
def GMade (words : Nat) (L : List Ob) (w : World) (e : Ending) (w' : World) : Prop :=
  ∃ q : Nat, e = .returned (.pointer (some ⟨q, 0, none⟩)) ∧ HAt w' q (fun b => w.heap.size ≤ b) words L ∧ Below w.heap.size w w'
theorem g_New (n : Nat) (h2 : 2 ≤ n) (hn : n ≤ 65536) (w : World) : Calls Tryd.prog 14 #[.int .i64 (n : Int)] w (GMade n [] w) :=
  (heap_New n h2 hn w).mono fun _ _ ⟨Y, he, h1, h2, h3⟩ => ⟨Y.hb, he, ⟨Y, rfl, h1, h3⟩, h2⟩
theorem g_NewI (n : Int) (h2 : 2 ≤ n) (hn : n ≤ 65536) (w : World) : Calls Tryd.prog 14 #[.int .i64 n] w (GMade n.toNat [] w) := by
  obtain ⟨m, rfl⟩ := Int.eq_ofNat_of_zero_le (show 0 ≤ n by omega)
  rw [Int.toNat_natCast]
  exact g_New m (by omega) (by omega) w
theorem g_Copy (q : Nat) (S : Nat → Prop) (words : Nat) (L : List Ob) (w : World) (h : HAt w q S words L) : Calls Tryd.prog 17 #[.pointer (some ⟨q, 0, none⟩)] w (GMade words L w) := by
  obtain ⟨Y, rfl, h2, h3⟩ := h
  exact (heap_Copy Y words L w h2).mono fun e w' ⟨Y, he, h1, h2, h3⟩ => ⟨Y.hb, he, ⟨Y, rfl, h1, h3⟩, h2⟩
/-- Where all that a law has made lies from block B on. -/
def From (B : Nat) (b : Nat) : Prop := B ≤ b
theorem HStep.from {q B : Nat} {words : Nat} {L : List Ob} {w w' : World} (h : HStep q (From B) words L w w') (hB : B ≤ w.heap.size) : HAt w' q (From B) words L ∧ Below B w w' := by
  refine ⟨h.1.mono fun b hb => ?_, h.2.os, h.2.tape, h.2.output, h.2.size, fun k hk => h.2.block k (by omega) (fun e => ?_)⟩
  · rcases hb with hb | hb
    · exact hb
    · exact Nat.le_trans hB hb
  · have : B ≤ k := e
    omega
theorem HAt.bound {w : World} {q : Nat} {S : Nat → Prop} {words : Nat} {L : List Ob} (h : HAt w q S words L) : HAt w q (fun b => S b ∧ b < w.heap.size) words L := by
  obtain ⟨Y, h1, h2, h3⟩ := h
  exact ⟨Y, h1, h2, fun b hb => ⟨h3 b hb, h2.lt b hb⟩⟩
def BAlloc (q B words : Nat) (a err : Int) (L : List Ob) (w : World) (e : Ending) (w' : World) : Prop := e = .returned (.tuple #[.int .i64 a, .int .i64 err]) ∧ HAt w' q (From B) words L ∧ Below B w w'
def BFree (q B words : Nat) (err : Int) (L : List Ob) (w : World) (e : Ending) (w' : World) : Prop := e = .returned (.int .i64 err) ∧ HAt w' q (From B) words L ∧ Below B w w'
theorem b_Alloc (q B words : Nat) (L : List Ob) (w : World) (h : HAt w q (From B) words L) (hB : B ≤ w.heap.size) (k n : Int) (a err : Int) (L' : List Ob) (hv : hAlloc words L k n = (a, err, L')) :
    Calls Tryd.prog 18 #[.pointer (some ⟨q, 0, none⟩), .int .i64 k, .int .i64 n] w (BAlloc q B words a err L' w) := by
  have h1 := g_Alloc q (From B) words L w h k n
  rw [hv] at h1
  exact h1.mono fun e w' ⟨he, hs⟩ => ⟨he, hs.from hB⟩
theorem b_Free (q B words : Nat) (L : List Ob) (w : World) (h : HAt w q (From B) words L) (hB : B ≤ w.heap.size) (a : Int) (err : Int) (L' : List Ob) (hv : hFree L a = (err, L')) :
    Calls Tryd.prog 19 #[.pointer (some ⟨q, 0, none⟩), .int .i64 a] w (BFree q B words err L' w) := by
  have h1 := g_Free q (From B) words L w h a
  rw [hv] at h1
  exact h1.mono fun e w' ⟨he, hs⟩ => ⟨he, hs.from hB⟩
theorem b_Set (q B words : Nat) (L : List Ob) (w : World) (h : HAt w q (From B) words L) (hB : B ≤ w.heap.size) (a i : Int) (x : Int) (hx0 : 0 ≤ x) (hx : x < 18446744073709551616) (err : Int) (L' : List Ob) (hv : hSet L a i x.toNat = (err, L')) :
    Calls Tryd.prog 21 #[.pointer (some ⟨q, 0, none⟩), .int .i64 a, .int .i64 i, .int .u64 x] w (BFree q B words err L' w) := by
  have h1 := g_Set q (From B) words L w h a i x.toNat (by omega)
  rw [hv, show ((x.toNat : Nat) : Int) = x by omega] at h1
  exact h1.mono fun e w' ⟨he, hs⟩ => ⟨he, hs.from hB⟩
def YesMade (b : Bool) (w : World) (e : Ending) (w' : World) : Prop := e = .returned (.bool b) ∧ Below w.heap.size w w'
theorem aw1 : hAlloc 10 [] 5 1 = (1, 0, [⟨1, 5, [1]⟩]) := rfl
theorem aw2 : hAlloc 10 [⟨1, 5, [1]⟩] 6 3 = (3, 0, [⟨1, 5, [1]⟩, ⟨3, 6, [1, 1, 1]⟩]) := rfl
theorem aw3 : hSet [⟨1, 5, [1]⟩, ⟨3, 6, [1, 1, 1]⟩] 3 0 (9 : Int).toNat = (0, [⟨1, 5, [1]⟩, ⟨3, 6, [9, 1, 1]⟩]) := rfl
theorem aw4 : hFree [⟨1, 5, [1]⟩, ⟨3, 6, [9, 1, 1]⟩] 1 = (0, [⟨3, 6, [9, 1, 1]⟩]) := rfl
theorem aw_get (q : Nat) (S : Nat → Prop) (w : World) (h : HAt w q S 10 [⟨1, 5, [1]⟩, ⟨3, 6, [9, 1, 1]⟩]) : Calls Tryd.prog 23 #[.pointer (some ⟨q, 0, none⟩), .int .i64 3, .int .i64 0] w (TwoSame (.int .u64 9) 0 w) := g_Get q S 10 _ w h 3 0
theorem aw_kind (q : Nat) (S : Nat → Prop) (w : World) (h : HAt w q S 10 [⟨1, 5, [1]⟩, ⟨3, 6, [9, 1, 1]⟩]) : Calls Tryd.prog 44 #[.pointer (some ⟨q, 0, none⟩), .int .i64 3] w (TwoSame (.int .i64 6) 0 w) := g_Kind q S 10 _ w h 3
theorem aw_size (q : Nat) (S : Nat → Prop) (w : World) (h : HAt w q S 10 [⟨1, 5, [1]⟩, ⟨3, 6, [9, 1, 1]⟩]) : Calls Tryd.prog 49 #[.pointer (some ⟨q, 0, none⟩), .int .i64 3] w (TwoSame (.int .i64 3) 0 w) := g_Size q S 10 _ w h 3
theorem aw_room (q : Nat) (S : Nat → Prop) (w : World) (h : HAt w q S 10 [⟨3, 6, [9, 1, 1]⟩]) : Calls Tryd.prog 70 #[.pointer (some ⟨q, 0, none⟩)] w (IntMade 5 w) := g_Room q S 10 _ w h
theorem aw_room2 (q : Nat) (S : Nat → Prop) (w : World) (h : HAt w q S 10 [⟨1, 5, [1]⟩, ⟨3, 6, [9, 1, 1]⟩]) : Calls Tryd.prog 70 #[.pointer (some ⟨q, 0, none⟩)] w (IntMade 3 w) := g_Room q S 10 _ w h
theorem aw_long (q : Nat) (S : Nat → Prop) (w : World) (h : HAt w q S 10 [⟨3, 6, [9, 1, 1]⟩]) : Calls Tryd.prog 71 #[.pointer (some ⟨q, 0, none⟩)] w (IntMade 3 w) := g_Longest q S 10 _ w h
theorem aw_next (q : Nat) (S : Nat → Prop) (w : World) (h : HAt w q S 10 [⟨3, 6, [9, 1, 1]⟩]) (hT : Tab w) : Calls Tryd.prog 20 #[.pointer (some ⟨q, 0, none⟩), .int .i64 2] w (OneSame 3 w) := g_Next q S 10 _ w h 2 hT (by decide)
theorem aw_words (q : Nat) (S : Nat → Prop) (w : World) (h : HAt w q S 10 [⟨3, 6, [9, 1, 1]⟩]) : Calls Tryd.prog 72 #[.pointer (some ⟨q, 0, none⟩)] w (OneSame 10 w) := g_Words q S 10 _ w h
set_option maxHeartbeats 4000000 in
set_option maxRecDepth 100000 in
theorem awake_any (w : World) (hT : Tab w) : Calls Tryd.prog 13 #[] w (YesMade true w) := by
  have HT := Lib.hid hT
  clear hT
  obtain ⟨B, HBE⟩ : ∃ B, Hid (B = w.heap.size) := ⟨_, Lib.hid rfl⟩
  go_enter Tryd.func13, Tryd.ntmps13
  go_wp2_with fail
  refine (g_NewI 10 (by decide) (by decide) _).mono ?_
  rw [show (10 : Int).toNat = 10 from rfl]
  rintro e w1 ⟨q, rfl, h1, hb1⟩
  have H : Hid (HAt w1 q (From B) 10 []) := Lib.hid (h1.mono fun b hb => by show B ≤ b; rw [HBE.out]; exact hb)
  have HB : Hid (Below B w w1) := Lib.hid (by rw [HBE.out]; exact hb1)
  have HZ : Hid (B ≤ w1.heap.size) := Lib.hid (by rw [HBE.out]; exact hb1.size)
  clear h1 hb1
  go_wp2_with fail
  refine (new_nil 1 _ (by decide)).mono ?_
  rintro e w' ⟨rfl, rfl⟩
  go_wp2_with fail
  refine (b_Alloc q B 10 _ _ H.out HZ.out 5 1 _ _ _ aw1).mono ?_
  rintro e w2 ⟨rfl, h2, hb2⟩
  have H2 := Lib.hid h2
  have HB2 := Lib.hid (HB.out.trans hb2)
  have HZ2 := Lib.hid (Nat.le_trans HZ.out hb2.size)
  clear h2 hb2 H HB HZ
  go_wp2_with fail
  refine (b_Alloc q B 10 _ _ H2.out HZ2.out 6 3 _ _ _ aw2).mono ?_
  rintro e w3 ⟨rfl, h3, hb3⟩
  have H3 := Lib.hid h3
  have HB3 := Lib.hid (HB2.out.trans hb3)
  have HZ3 := Lib.hid (Nat.le_trans HZ2.out hb3.size)
  clear h3 hb3 H2 HB2 HZ2
  go_wp2_with fail
  refine (b_Set q B 10 _ _ H3.out HZ3.out 3 0 9 (by decide) (by decide) _ _ aw3).mono ?_
  rintro e w4 ⟨rfl, h4, hb4⟩
  have H4 := Lib.hid h4
  have HB4 := Lib.hid (HB3.out.trans hb4)
  have HZ4 := Lib.hid (Nat.le_trans HZ3.out hb4.size)
  clear h4 hb4 H3 HB3 HZ3
  go_wp2_with fail
  refine (aw_get q _ _ H4.out).mono ?_
  rintro e w' ⟨rfl, rfl⟩
  go_wp2_with fail
  refine (aw_kind q _ _ H4.out).mono ?_
  rintro e w' ⟨rfl, rfl⟩
  go_wp2_with fail
  refine (aw_size q _ _ H4.out).mono ?_
  rintro e w' ⟨rfl, rfl⟩
  go_wp2_with fail
  refine (g_Copy q _ _ _ _ H4.out).mono ?_
  rintro e w5 ⟨q', rfl, h5, hb5⟩
  have H5 := Lib.hid h5
  have H6 := Lib.hid (H4.out.bound.below hb5)
  have HB5 := Lib.hid (HB4.out.trans (hb5.mono HZ4.out))
  have HZ5 := Lib.hid (Nat.le_trans HZ4.out hb5.size)
  clear h5 hb5
  go_wp2_with fail
  have hfr := g_Free q _ 10 _ _ H6.out 1
  rw [aw4] at hfr
  refine hfr.mono ?_
  rintro e w6 ⟨rfl, hs⟩
  have H7 := Lib.hid hs.1
  have H8 : Hid (HAt w6 q' (fun b => w4.heap.size ≤ b) 10 [⟨1, 5, [1]⟩, ⟨3, 6, [9, 1, 1]⟩]) := Lib.hid (H5.out.keep fun b hl hb => hs.2.block b hl (fun h => by have := h.2; omega))
  have HB6 : Hid (Below B w w6) := Lib.hid (HB5.out.trans ⟨hs.2.os, hs.2.tape, hs.2.output, hs.2.size, fun k hk => hs.2.block k (Nat.lt_of_lt_of_le hk HZ5.out) (fun h => by have : B ≤ k := h.1; omega)⟩)
  have HT6 : Hid (Tab w6) := Lib.hid (HT.out.below HB6.out (by rw [HBE.out]; exact HT.out.lt))
  have HZ6 : Hid (B ≤ w6.heap.size) := Lib.hid (Nat.le_trans HZ5.out hs.2.size)
  clear hs hfr
  go_wp2_with fail
  refine (aw_room q _ _ H7.out).mono ?_
  rintro e w7 ⟨rfl, hb7⟩
  have H9 := Lib.hid (H7.out.below hb7)
  have H10 := Lib.hid (H8.out.below hb7)
  have HB7 := Lib.hid (HB6.out.trans (hb7.mono HZ6.out))
  have HT7 := Lib.hid (HT6.out.below hb7 HT6.out.lt)
  have HZ7 := Lib.hid (Nat.le_trans HZ6.out hb7.size)
  clear hb7 H7 H8 HT6
  go_wp2_with fail
  refine (aw_long q _ _ H9.out).mono ?_
  rintro e w8 ⟨rfl, hb8⟩
  have H11 := Lib.hid (H9.out.below hb8)
  have H12 := Lib.hid (H10.out.below hb8)
  have HB8 := Lib.hid (HB7.out.trans (hb8.mono HZ7.out))
  have HT8 := Lib.hid (HT7.out.below hb8 HT7.out.lt)
  have HZ8 := Lib.hid (Nat.le_trans HZ7.out hb8.size)
  clear hb8 H9 H10 HT7
  go_wp2_with fail
  refine (aw_next q _ _ H11.out HT8.out).mono ?_
  rintro e w' ⟨rfl, rfl⟩
  go_wp2_with fail
  refine (aw_words q _ _ H11.out).mono ?_
  rintro e w' ⟨rfl, rfl⟩
  go_wp2_with fail
  refine (aw_room2 q' _ _ H12.out).mono ?_
  rintro e w9 ⟨rfl, hb9⟩
  have HB9 := Lib.hid (HB8.out.trans (hb9.mono HZ8.out))
  clear hb9
  go_wp2_with fail
  go_ret
  exact ⟨rfl, by rw [← HBE.out]; exact HB9.out⟩
end Go.Proofs.YtbmkjlpjgkfjcaaDoor
