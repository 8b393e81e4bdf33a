/-
  The heap's calls, in terms of the objects that it holds.
-/
import Derived.Test.YtdkbgdjkdalalaaGreatDoorHIs
namespace Go.Proofs.YtdkbgdjkdalalaaGreatDoor
open Go.RowKit
/-- The heap that lies at Y has so many words and holds just these objects. -/
def HeapIs (w : World) (Y : Lay) (words : Nat) (L : List Ob) : Prop := ∃ cs ms rs, Mem w Y cs ms rs ∧ Rep words L cs ms rs
/-- A call turned the heap at Y into one of these objects, and nothing else. -/
def HeapStep (Y : Lay) (words : Nat) (L : List Ob) (w w' : World) : Prop :=
  ∃ Y' : Lay, Y'.hb = Y.hb ∧ HeapIs w' Y' words L ∧ Turned Y.own w w' ∧ ∀ b, Y'.own b → Y.own b ∨ w.heap.size ≤ b
theorem MemStep.heap {Y : Lay} {words : Nat} {L : List Ob} {cs ms : List Nat} {rs : List (Nat × Nat)} {w w' : World} (h : MemStep Y cs ms rs w w') (hr : Rep words L cs ms rs) : HeapStep Y words L w w' := by
  obtain ⟨Y', h1, h2, h3, h4⟩ := h
  exact ⟨Y', h1, ⟨cs, ms, rs, h2, hr⟩, h3, h4⟩
theorem HeapIs.keep {w w' : World} {Y : Lay} {words : Nat} {L : List Ob} (h : HeapIs w Y words L) (hk : ∀ b, Y.own b → w'.heap[b]? = w.heap[b]?) : HeapIs w' Y words L := by
  obtain ⟨cs, ms, rs, h1, h2⟩ := h
  exact ⟨cs, ms, rs, h1.keep hk, h2⟩
theorem HeapIs.lt {w : World} {Y : Lay} {words : Nat} {L : List Ob} (h : HeapIs w Y words L) : ∀ b, Y.own b → b < w.heap.size := by
  obtain ⟨cs, ms, rs, h1, h2⟩ := h
  exact h1.lt
theorem HeapIs.below {w w' : World} {Y : Lay} {words : Nat} {L : List Ob} (h : HeapIs w Y words L) (hb : Below w.heap.size w w') : HeapIs w' Y words L :=
  h.keep fun b hw => hb.block b (h.lt b hw)
theorem HeapIs.drew {w : World} {Y : Lay} {words : Nat} {L : List Ob} (h : HeapIs w Y words L) : HeapIs w.drew Y words L := h.keep fun _ _ => rfl
theorem HeapIs.stay {w w' : World} {Y : Lay} {words : Nat} {L : List Ob} (h : HeapIs w Y words L) (hb : Below w.heap.size w w') : HeapStep Y words L w w' :=
  ⟨Y, rfl, h.below hb, Turned.of_below hb, fun _ hb => .inl hb⟩
def hAlloc (words : Nat) (L : List Ob) (k n : Int) : Int × Int × List Ob :=
  if k < 1 ∨ 6 < k then (0, 8, L) else if n < 0 ∨ 4096 < n then (0, 2, L) else
    match allocAt words k.toNat n.toNat 1 L with
    | none => (0, 6, L)
    | some (a, L') => ((a : Int), 0, L')
def hFree (L : List Ob) (a : Int) : Int × List Ob :=
  if a < 0 then (7, L) else
    match findOb L a.toNat with
    | none => (7, L)
    | some _ => (0, dropOb L a.toNat)
def hGet (L : List Ob) (a i : Int) : Nat × Int :=
  if a < 0 then (0, 7) else
    match findOb L a.toNat with
    | none => (0, 7)
    | some o => if i < 0 ∨ (o.fs.length : Int) ≤ i then (0, 2) else (o.fs.getD i.toNat 0, 0)
def hSet (L : List Ob) (a i : Int) (x : Nat) : Int × List Ob :=
  if a < 0 then (7, L) else
    match findOb L a.toNat with
    | none => (7, L)
    | some o => if i < 0 ∨ (o.fs.length : Int) ≤ i then (2, L) else (0, setOb L a.toNat i.toNat x)
def hKind (L : List Ob) (a : Int) : Nat × Int :=
  if a < 0 then (0, 7) else
    match findOb L a.toNat with
    | none => (0, 7)
    | some o => (o.kind, 0)
def hSize (L : List Ob) (a : Int) : Nat × Int :=
  if a < 0 then (0, 7) else
    match findOb L a.toNat with
    | none => (0, 7)
    | some o => (o.fs.length, 0)
theorem no_neg {L : List Ob} {a : Int} (h : ¬ (a < 0 ∨ findOb L a.toNat = none)) : ∃ (n : Nat) (o : Ob), a = (n : Int) ∧ findOb L n = some o := by
  obtain ⟨n, rfl⟩ := Int.eq_ofNat_of_zero_le (show 0 ≤ a by omega)
  cases hf : findOb L n with
  | none => exact absurd (.inr (by simpa using hf)) h
  | some o => exact ⟨n, o, rfl, hf⟩
def AllocIs (Y : Lay) (words : Nat) (r : Int × Int × List Ob) (w : World) (e : Ending) (w' : World) : Prop :=
  e = .returned (.tuple #[.int .i64 r.1, .int .i64 r.2.1]) ∧ HeapStep Y words r.2.2 w w'
theorem heap_Alloc (Y : Lay) (words : Nat) (L : List Ob) (k n : Int) (w : World) (h : HeapIs w Y words L) :
    Calls Tryz.prog 64 #[.pointer (some ⟨Y.hb, 0, none⟩), .int .i64 k, .int .i64 n] w (AllocIs Y words (hAlloc words L k n) w) := by
  by_cases hk : k < 1 ∨ 6 < k
  · rw [show hAlloc words L k n = (0, 8, L) by unfold hAlloc; rw [if_pos hk]]
    exact (alloc_kind Y k n w hk).mono fun e w' ⟨he, hb⟩ => ⟨he, h.stay hb⟩
  · by_cases hn : n < 0 ∨ 4096 < n
    · rw [show hAlloc words L k n = (0, 2, L) by unfold hAlloc; rw [if_neg hk, if_pos hn]]
      exact (alloc_range Y k n w (by omega) hn).mono fun e w' ⟨he, hb⟩ => ⟨he, h.stay hb⟩
    · obtain ⟨k, rfl⟩ := Int.eq_ofNat_of_zero_le (show 0 ≤ k by omega)
      obtain ⟨n, rfl⟩ := Int.eq_ofNat_of_zero_le (show 0 ≤ n by omega)
      obtain ⟨cs, ms, rs, hm, hr⟩ := h
      cases ha : allocAt words k n 1 L with
      | none =>
        rw [show hAlloc words L k n = (0, 6, L) by unfold hAlloc; rw [if_neg hk, if_neg hn, Int.toNat_natCast, Int.toNat_natCast, ha]]
        obtain ⟨f1, f2⟩ := hr.full ha
        have hc := alloc_full Y cs ms rs k n w hm (by omega) (by omega) hr.rcount hr.within f1
        rw [f2] at hc
        exact hc.mono fun e w' ⟨he, hs⟩ => ⟨he, hs.heap hr⟩
      | some r =>
        obtain ⟨a, L'⟩ := r
        rw [show hAlloc words L k n = ((a : Int), 0, L') by unfold hAlloc; rw [if_neg hk, if_neg hn, Int.toNat_natCast, Int.toNat_natCast, ha]]
        obtain ⟨f1, f2, f3, f4⟩ := hr.alloc (by omega) (by omega) ha
        exact (alloc_ok Y cs ms rs k n a w hm hr.small hr.lens hr.cmost (by omega) (by omega) hr.rcount hr.within f1 f2 f3).mono fun e w' ⟨he, hs⟩ => ⟨he, hs.heap f4⟩
def FreeIs (Y : Lay) (words : Nat) (r : Int × List Ob) (w : World) (e : Ending) (w' : World) : Prop :=
  e = .returned (.int .i64 r.1) ∧ HeapStep Y words r.2 w w'
theorem heap_Free (Y : Lay) (words : Nat) (L : List Ob) (a : Int) (w : World) (h : HeapIs w Y words L) :
    Calls Tryz.prog 102 #[.pointer (some ⟨Y.hb, 0, none⟩), .int .i64 a] w (FreeIs Y words (hFree L a) w) := by
  have hh := h
  obtain ⟨cs, ms, rs, hm, hr⟩ := h
  by_cases hn : a < 0 ∨ findOb L a.toNat = none
  · rw [show hFree L a = (7, L) by
      unfold hFree
      by_cases h0 : a < 0
      · rw [if_pos h0]
      · rw [if_neg h0, hn.resolve_left h0]]
    refine (free_no Y cs ms rs a w hm hr.small hr.lens hr.cmost (hr.not_holds a hn)).mono ?_
    rintro e w' ⟨he, rfl⟩
    exact ⟨he, hh.stay (Below.refl _ _)⟩
  · obtain ⟨n, o, rfl, hf⟩ := no_neg hn
    rw [show hFree L n = (0, dropOb L n) by unfold hFree; rw [if_neg (by omega), Int.toNat_natCast, hf]]
    obtain ⟨_, _, f0, f1, f2, f3, f4, f5, f6⟩ := hr.at_ hf
    exact (free_ok Y cs ms rs n o.fs.length w hm hr.small hr.lens hr.cmost f0 f2 f3 f5 hr.rising hr.rcount hr.within).mono fun e w' ⟨he, hs⟩ => ⟨he, hs.heap (hr.free hf)⟩
theorem heap_Get (Y : Lay) (words : Nat) (L : List Ob) (a i : Int) (w : World) (h : HeapIs w Y words L) :
    Calls Tryz.prog 43 #[.pointer (some ⟨Y.hb, 0, none⟩), .int .i64 a, .int .i64 i] w (TwoSame (.int .u64 ((hGet L a i).1 : Nat)) (hGet L a i).2 w) := by
  obtain ⟨cs, ms, rs, hm, hr⟩ := h
  by_cases hn : a < 0 ∨ findOb L a.toNat = none
  · rw [show hGet L a i = (0, 7) by
      unfold hGet
      by_cases h0 : a < 0
      · rw [if_pos h0]
      · rw [if_neg h0, hn.resolve_left h0]]
    exact get_addr Y cs ms rs a i w hm hr.small hr.lens hr.cmost (hr.not_holds a hn)
  · obtain ⟨n, o, rfl, hf⟩ := no_neg hn
    obtain ⟨hmem, hat, f0, f1, f2, f3, f4, f5, f6⟩ := hr.at_ hf
    by_cases hi : i < 0 ∨ (o.fs.length : Int) ≤ i
    · rw [show hGet L n i = (0, 2) by unfold hGet; rw [if_neg (by omega), Int.toNat_natCast, hf]; simp only; rw [if_pos hi]]
      exact get_range Y cs ms rs n o.fs.length i w hm hr.small hr.lens hr.cmost f0 f2 f3 f5 hi
    · obtain ⟨i, rfl⟩ := Int.eq_ofNat_of_zero_le (show 0 ≤ i by omega)
      rw [show hGet L n i = (o.fs.getD i 0, 0) by unfold hGet; rw [if_neg (by omega), Int.toNat_natCast, hf]; simp only; rw [if_neg hi, Int.toNat_natCast]]
      have hb := hr.body o hmem i (by omega)
      rw [hat] at hb
      have hc := get_ok Y cs ms rs n o.fs.length i w hm hr.small hr.lens hr.cmost f0 f2 f3 f5 (by omega)
      rw [hb] at hc
      exact hc
theorem heap_Set (Y : Lay) (words : Nat) (L : List Ob) (a i : Int) (x : Nat) (hx : x < 18446744073709551616) (w : World) (h : HeapIs w Y words L) :
    Calls Tryz.prog 71 #[.pointer (some ⟨Y.hb, 0, none⟩), .int .i64 a, .int .i64 i, .int .u64 (x : Int)] w (FreeIs Y words (hSet L a i x) w) := by
  have hh := h
  obtain ⟨cs, ms, rs, hm, hr⟩ := h
  by_cases hn : a < 0 ∨ findOb L a.toNat = none
  · rw [show hSet L a i x = (7, L) by
      unfold hSet
      by_cases h0 : a < 0
      · rw [if_pos h0]
      · rw [if_neg h0, hn.resolve_left h0]]
    refine (set_addr Y cs ms rs a i x w hm hr.small hr.lens hr.cmost (hr.not_holds a hn)).mono ?_
    rintro e w' ⟨he, rfl⟩
    exact ⟨he, hh.stay (Below.refl _ _)⟩
  · obtain ⟨n, o, rfl, hf⟩ := no_neg hn
    obtain ⟨hmem, hat, f0, f1, f2, f3, f4, f5, f6⟩ := hr.at_ hf
    by_cases hi : i < 0 ∨ (o.fs.length : Int) ≤ i
    · rw [show hSet L n i x = (2, L) by unfold hSet; rw [if_neg (by omega), Int.toNat_natCast, hf]; simp only; rw [if_pos hi]]
      refine (set_range Y cs ms rs n o.fs.length i x w hm hr.small hr.lens hr.cmost f0 f2 f3 f5 hi).mono ?_
      rintro e w' ⟨he, rfl⟩
      exact ⟨he, hh.stay (Below.refl _ _)⟩
    · obtain ⟨i, rfl⟩ := Int.eq_ofNat_of_zero_le (show 0 ≤ i by omega)
      rw [show hSet L n i x = (0, setOb L n i x) by unfold hSet; rw [if_neg (by omega), Int.toNat_natCast, hf]; simp only; rw [if_neg hi, Int.toNat_natCast]]
      refine (set_ok Y cs ms rs n o.fs.length i x w hm hr.small hr.lens hr.cmost f0 f2 f3 f5 (by omega)).mono ?_
      rintro e w' ⟨he, hm2, ht⟩
      exact ⟨he, Y, rfl, ⟨_, _, _, hm2, hr.set_ hf (by omega) hx⟩, ht, fun _ hb => .inl hb⟩
theorem heap_Kind (Y : Lay) (words : Nat) (L : List Ob) (a : Int) (w : World) (h : HeapIs w Y words L) :
    Calls Tryz.prog 60 #[.pointer (some ⟨Y.hb, 0, none⟩), .int .i64 a] w (TwoSame (.int .i64 ((hKind L a).1 : Nat)) (hKind L a).2 w) := by
  obtain ⟨cs, ms, rs, hm, hr⟩ := h
  by_cases hn : a < 0 ∨ findOb L a.toNat = none
  · rw [show hKind L a = (0, 7) by
      unfold hKind
      by_cases h0 : a < 0
      · rw [if_pos h0]
      · rw [if_neg h0, hn.resolve_left h0]]
    exact kind_no Y cs ms rs a w hm hr.small hr.lens hr.cmost (hr.not_holds a hn)
  · obtain ⟨n, o, rfl, hf⟩ := no_neg hn
    obtain ⟨hmem, hat, f0, f1, f2, f3, f4, f5, f6⟩ := hr.at_ hf
    rw [show hKind L n = (o.kind, 0) by unfold hKind; rw [if_neg (by omega), Int.toNat_natCast, hf]]
    exact kind_ok Y cs ms rs n o.kind w hm hr.small hr.lens hr.cmost f0 f1 f2 f6 f4
theorem heap_Size (Y : Lay) (words : Nat) (L : List Ob) (a : Int) (w : World) (h : HeapIs w Y words L) :
    Calls Tryz.prog 61 #[.pointer (some ⟨Y.hb, 0, none⟩), .int .i64 a] w (TwoSame (.int .i64 ((hSize L a).1 : Nat)) (hSize L a).2 w) := by
  obtain ⟨cs, ms, rs, hm, hr⟩ := h
  by_cases hn : a < 0 ∨ findOb L a.toNat = none
  · rw [show hSize L a = (0, 7) by
      unfold hSize
      by_cases h0 : a < 0
      · rw [if_pos h0]
      · rw [if_neg h0, hn.resolve_left h0]]
    exact size_no Y cs ms rs a w hm hr.small hr.lens hr.cmost (hr.not_holds a hn)
  · obtain ⟨n, o, rfl, hf⟩ := no_neg hn
    obtain ⟨hmem, hat, f0, f1, f2, f3, f4, f5, f6⟩ := hr.at_ hf
    rw [show hSize L n = (o.fs.length, 0) by unfold hSize; rw [if_neg (by omega), Int.toNat_natCast, hf]]
    exact size_ok Y cs ms rs n o.fs.length w hm hr.small hr.lens hr.cmost f0 f2 f3 f5
theorem heap_Next (Y : Lay) (words : Nat) (L : List Ob) (a : Int) (w : World) (h : HeapIs w Y words L) (hT : Tab w) (ha : a ≤ 9223372036854775807) :
    Calls Tryz.prog 101 #[.pointer (some ⟨Y.hb, 0, none⟩), .int .i64 a] w (OneSame (nextOb L a.toNat : Nat) w) := by
  obtain ⟨cs, ms, rs, hm, hr⟩ := h
  refine (next_any Y cs ms rs a w hm hT hr.small (by have := hr.mlen; have := hr.most; omega) ha).mono ?_
  rintro e w' ⟨⟨r, hn, he⟩, hw⟩
  rw [hr.next a.toNat r hn] at he
  exact ⟨he, hw⟩
theorem heap_Words (Y : Lay) (words : Nat) (L : List Ob) (w : World) (h : HeapIs w Y words L) :
    Calls Tryz.prog 63 #[.pointer (some ⟨Y.hb, 0, none⟩)] w (OneSame (words : Nat) w) := by
  obtain ⟨cs, ms, rs, hm, hr⟩ := h
  have hc := words_any Y cs ms rs w hm
  rw [hr.len] at hc
  exact hc
def roomOf (words : Nat) (L : List Ob) : Nat := sumR (freeFrom words 1 L)
def longOf (words : Nat) (L : List Ob) : Nat := maxR (freeFrom words 1 L)
theorem heap_Room (Y : Lay) (words : Nat) (L : List Ob) (w : World) (h : HeapIs w Y words L) :
    Calls Tryz.prog 56 #[.pointer (some ⟨Y.hb, 0, none⟩)] w (IntMade (roomOf words L : Nat) w) := by
  obtain ⟨cs, ms, rs, hm, hr⟩ := h
  have hc := room_any Y cs ms rs w hm (by have := hr.rcount; omega) hr.rsum
  unfold roomOf
  rw [← hr.runs]
  exact hc
/-- A heap of one's own is returned; what was there stands. -/
def HeapMade (words : Nat) (L : List Ob) (w : World) (e : Ending) (w' : World) : Prop :=
  ∃ Y : Lay, e = .returned (.pointer (some ⟨Y.hb, 0, none⟩)) ∧ HeapIs w' Y words L ∧ Below w.heap.size w w' ∧ ∀ b, Y.own b → w.heap.size ≤ b
theorem heap_New (n : Nat) (h2 : 2 ≤ n) (hn : n ≤ 65536) (w : World) :
    Calls Tryz.prog 28 #[.int .i64 (n : Int)] w (HeapMade n [] w) := by
  refine (new_ok n w h2 hn).mono ?_
  rintro e w' ⟨x, y, z, q, he, hh, hx, hy, hz, hb, bx, by_, bz, bq⟩
  have hrn := Rep.new n h2 hn
  have hm64 : (n + 63) / 64 ≤ 65536 := by omega
  refine ⟨⟨q, x, y, z, n, (n + 63) / 64, 1⟩, he, ⟨_, _, _, ⟨?_, words_made hx hn, words_made hy hm64, ?_⟩, hrn⟩, hb, ?_⟩
  · rw [List.length_replicate, List.length_replicate]; exact hh
  · refine runs_made (a := 1) (n := n - 1) ?_
    rw [show ((n - 1 : Nat) : Int) = (n : Int) - 1 by omega]
    exact hz
  · rintro b (e | e | e | e)
    · rw [e]; exact bq
    · rw [e]; exact bx
    · rw [e]; exact by_
    · rw [e]; exact bz
end Go.Proofs.YtdkbgdjkdalalaaGreatDoor
