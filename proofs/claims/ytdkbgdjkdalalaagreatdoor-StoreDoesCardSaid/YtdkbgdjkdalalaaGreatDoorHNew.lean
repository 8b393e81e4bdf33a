/-
  The walks of New and of the calls that only look: Words, Room, Longest, Next, Kind, Size.
-/
import Derived.Test.YtdkbgdjkdalalaaGreatDoorHMem
import Derived.Laws.MakeOwn
namespace Go.Proofs.YtdkbgdjkdalalaaGreatDoor
open Go.RowKit
theorem info29 : (Tryz.prog.info? 32).map (fun i => (i.zero, i.size, i.bytes)) = some (some (.int .u64 0), 1, 8) := by kernel_rfl
theorem info30 : (Tryz.prog.info? 33).map (fun i => (i.zero, i.size, i.bytes)) = some (some (.int .u64 0), 1, 8) := by kernel_rfl
theorem run_make_rowN {P : Program} (t e : TypeId) (i : TypeInfo) (z : Value) (ht : P.underlying t = some (.slice e)) (hi : P.info? e = some i) (hz : i.zero = some z)
    (kl kc : IntKind) (n c : Nat) (hnc : n ≤ c) (hbytes : i.bytes * c ≤ 281474976710656) (h63 : c ≤ 9223372036854775807) (w : World) :
    (Instr.makeSlice t (.int kl (n : Int)) (.int kc (c : Int))).run P w = .ok (.slice (some ⟨w.heap.size, 0, none⟩) n c) (w.alloc (.cells (madeCells z.cells (c * i.size)) e)) := by
  have hb : (i.bytes : Int) * (c : Int) ≤ 281474976710656 := by
    have h : ((i.bytes * c : Nat) : Int) ≤ 281474976710656 := by omega
    rwa [Int.natCast_mul] at h
  have hr := run_make (P := P) w t e i z ht hi hz kl kc n c (by omega) (by omega) hb (by omega)
  simp only [Int.toNat_natCast] at hr
  exact hr
def zeros (n : Nat) : Array Value := madeCells #[Value.int .u64 0] n
theorem zeros_list (n : Nat) : (zeros n).toList = u64s (List.replicate n 0) := by
  unfold zeros
  rw [toList_madeCells_one]
  simp [u64s]
theorem zeros_size (n : Nat) : (zeros n).size = n := by
  rw [← Array.length_toList, zeros_list, u64s_len, List.length_replicate]
theorem words_made {w : World} {t : TypeId} {g n : Nat} (h : w.heap[g]? = some (.cells (zeros n) t (0, 0))) (hn : n ≤ 65536) : Words w t g n (List.replicate n 0) := by
  unfold Words
  rw [List.length_replicate]
  refine ⟨by rw [u64s_len, List.length_replicate]; omega, .inr ⟨g, n, _, rfl, Nat.zero_le _, h, Nat.le_refl _, by unfold maxLen; omega, by rw [zeros_size]; omega, ?_⟩⟩
  rw [← zeros_list]
  exact List.take_of_length_le (by rw [Array.length_toList, zeros_size]; omega)
theorem runs_made {w : World} {g a n : Nat} (h : w.heap[g]? = some (.cells #[.int .i64 (a : Int), .int .i64 (n : Int)] 97 (0, 0))) : Runs w g 1 [(a, n)] :=
  ⟨rfl, .inr ⟨g, 1, _, rfl, Nat.zero_le _, h, Nat.le_refl _, by unfold maxLen; decide, rfl, rfl⟩⟩
theorem newMarks_any (n : Nat) (w : World) (hn : n ≤ 65536) :
    Calls Tryz.prog 62 #[.int .i64 (n : Int)] w fun e w' => e = .returned (.slice (some ⟨w.heap.size, 0, none⟩) ((n + 63) / 64) ((n + 63) / 64)) ∧ w' = w.alloc (.cells (zeros ((n + 63) / 64)) 32) := by
  obtain ⟨i0, hi0, hz0, hz1, hz2⟩ := info_parts info29
  have hmk := run_make_rowN (P := Tryz.prog) 94 32 i0 _ Tryz.underlying94 hi0 hz0 .i64 .i64 ((n + 63) / 64) ((n + 63) / 64) (Nat.le_refl _) (by rw [hz2]; omega) (by omega) w
  rw [hz1, Nat.mul_one, show (((n + 63) / 64 : Nat) : Int) = ((n : Int) + 63) / 64 by omega] at hmk
  have hmk2 : (Instr.makeSlice 94 (.int .i64 (((n : Int) + 63) / 64)) (.int .i64 (((n : Int) + 63) / 64))).run Tryz.prog w = .ok (.slice (some ⟨w.heap.size, 0, none⟩) ((n + 63) / 64) ((n + 63) / 64)) (w.alloc (.cells (zeros ((n + 63) / 64)) 32)) := hmk
  have e1 : (n : Int) + 64 - 1 = (n : Int) + 63 := by omega
  clear hmk
  generalize (n + 63) / 64 = m at *
  generalize zeros m = Z at *
  go_enter Tryz.func62, Tryz.ntmps62
  go_wp2
  go_ret
  exact ⟨rfl, rfl⟩
theorem alloc_get (w : World) (o : Obj) (k : Nat) : (w.alloc o).heap[k]? = if k = w.heap.size then some o else w.heap[k]? := by
  show (w.heap.push o)[k]? = _
  rw [Array.getElem?_push]
theorem alloc_hit (w : World) (o : Obj) (k : Nat) (h : k = w.heap.size) : (w.alloc o).heap[k]? = some o := by rw [alloc_get, if_pos h]
theorem alloc_miss (w : World) (o : Obj) (k : Nat) (h : k < w.heap.size) : (w.alloc o).heap[k]? = w.heap[k]? := Below.heap_alloc w o k h
theorem heap4 (w : World) (a b c d : Obj) : ((((w.alloc a).alloc b).alloc c).alloc d).heap[w.heap.size]? = some a ∧ ((((w.alloc a).alloc b).alloc c).alloc d).heap[w.heap.size + 1]? = some b ∧
    ((((w.alloc a).alloc b).alloc c).alloc d).heap[w.heap.size + 1 + 1]? = some c ∧ ((((w.alloc a).alloc b).alloc c).alloc d).heap[w.heap.size + 1 + 1 + 1]? = some d := by
  have s1 : (w.alloc a).heap.size = w.heap.size + 1 := by simp
  have s2 : ((w.alloc a).alloc b).heap.size = w.heap.size + 1 + 1 := by simp
  have s3 : (((w.alloc a).alloc b).alloc c).heap.size = w.heap.size + 1 + 1 + 1 := by simp
  refine ⟨?_, ?_, ?_, ?_⟩
  · rw [alloc_miss _ _ _ (by omega), alloc_miss _ _ _ (by omega), alloc_miss _ _ _ (by omega), alloc_hit _ _ _ rfl]
  · rw [alloc_miss _ _ _ (by omega), alloc_miss _ _ _ (by omega), alloc_hit _ _ _ (by omega)]
  · rw [alloc_miss _ _ _ (by omega), alloc_hit _ _ _ (by omega)]
  · rw [alloc_hit _ _ _ (by omega)]
def NewMade (n : Nat) (w : World) (e : Ending) (w' : World) : Prop :=
  ∃ x y z q, e = .returned (.pointer (some ⟨q, 0, none⟩)) ∧ Head w' q (.slice (some ⟨x, 0, none⟩) n n) (.slice (some ⟨y, 0, none⟩) ((n + 63) / 64) ((n + 63) / 64)) (.slice (some ⟨z, 0, none⟩) 1 1) ∧
    w'.heap[x]? = some (.cells (zeros n) 33 (0, 0)) ∧ w'.heap[y]? = some (.cells (zeros ((n + 63) / 64)) 32 (0, 0)) ∧
    w'.heap[z]? = some (.cells #[.int .i64 (1 : Int), .int .i64 ((n : Int) - 1)] 97 (0, 0)) ∧ Below w.heap.size w w' ∧ w.heap.size ≤ x ∧ w.heap.size ≤ y ∧ w.heap.size ≤ z ∧ w.heap.size ≤ q
set_option maxHeartbeats 1000000 in
set_option maxRecDepth 100000 in
theorem new_ok (n : Nat) (w : World) (h2 : 2 ≤ n) (hn : n ≤ 65536) :
    Calls Tryz.prog 28 #[.int .i64 (n : Int)] w (NewMade n w) := by
  obtain ⟨i0, hi0, hz0, hz1, hz2⟩ := info_parts info30
  have hmk : ∀ W : World, (Instr.makeSlice 28 (.int .i64 (n : Int)) (.int .i64 (n : Int))).run Tryz.prog W = .ok (.slice (some ⟨W.heap.size, 0, none⟩) n n) (W.alloc (.cells (zeros n) 33)) := by
    intro W
    have h := run_make_rowN (P := Tryz.prog) 28 33 i0 _ Tryz.underlying28 hi0 hz0 .i64 .i64 n n (Nat.le_refl _) (by rw [hz2]; omega) (by omega) W
    rw [hz1, Nat.mul_one] at h
    exact h
  have hw1 : IntKind.i64.wrap ((n : Int) - 1) = (n : Int) - 1 := by rw [IntKind.wrap_i64]; omega
  generalize hZ : zeros n = Z at *
  have HZ := Lib.hid hZ
  clear hZ
  go_enter Tryz.func28, Tryz.ntmps28
  go_wp2_with fail
  go_region_with (first | (go_at_call 62; refine (newMarks_any n _ hn).mono ?_; rintro e w1 ⟨rfl, rfl⟩))
  all_goals
    go_wp2_with fail
    go_ret
    apply Exists.intro
    apply Exists.intro
    apply Exists.intro
    apply Exists.intro
    refine ⟨rfl, ?_, ?_, ?_, ?_, (((((Below.refl _ _).alloc (Nat.le_refl _) _).alloc (by simp) _).alloc (by simp; omega) _).alloc (by simp; omega) _).drew, ?_, ?_, ?_, ?_⟩
    · exact (heap4 w _ _ _ _).2.2.2
    · rw [HZ.out]
      first | exact (heap4 w _ _ _ _).1 | exact (heap4 w _ _ _ _).2.1 | exact (heap4 w _ _ _ _).2.2.1
    · first | exact (heap4 w _ _ _ _).1 | exact (heap4 w _ _ _ _).2.1 | exact (heap4 w _ _ _ _).2.2.1
    · first | exact (heap4 w _ _ _ _).1 | exact (heap4 w _ _ _ _).2.1 | exact (heap4 w _ _ _ _).2.2.1
    all_goals omega
end Go.Proofs.YtdkbgdjkdalalaaGreatDoor
