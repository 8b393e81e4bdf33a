/-
  The deferred call of Parse: what it does to a panic, and where there is none.
-/
import Derived.Test.YthnefcodjkllgaaDoorGIter
import Derived.Test.YthnefcodjkllgaaDoorPAll
import Derived.Defers
import Derived.Recover
namespace Go.Proofs.YthnefcodjkllgaaDoor
open Go.RowKit
set_option maxRecDepth 100000 in
theorem p_idle (a b c : Value) (w : World) : CallsD Tryd.prog 56 #[a, b, c] .returning w fun e u' w' => e = .returned (.tuple #[]) ∧ u' = .returning ∧ w' = w := by
  refine callsD_of_wpS Tryd.func56 rfl fun c₀ cs hu => ?_
  apply wpS_seq
  apply wpS_region
  simp [wpOpsS, go_sem, recoverD, hu, Tryd.ntmps56, Exit.thenS]
  refine wpS_of_wp ?_
  show Code.wp _ _ _ { tmps := #[a, b, c, .nilIface, undef, .nilIface, undef, undef, undef, undef, undef, undef, undef, undef, undef], defers := [] } _
  go_wp2_with fail
  cases c₀
  simp_all [bodyPostS, results, Tryd.results56]
theorem catch_done {w : World} {b0 b1 b2 : Nat} {y0 y1 y2 y3 y4 y5 y6 y7 z1 z2 : Value} {t1 t2 : TypeId} (h0 : Box8 w b0 43 y0 y1 y2 y3 y4 y5 y6 y7) (h1 : w.heap[b1]? = some (.cells #[z1] t1 (0, 0))) (h2 : w.heap[b2]? = some (.cells #[z2] t2 (0, 0))) (n1 : ¬ b0 = b1) (n2 : ¬ b0 = b2) (n3 : ¬ b1 = b2) (u0 u1 u2 u3 u4 u5 u6 u7 v1 v2 : Value) (o : Obj) (w9 : World)
    (he : ((((set8 w b0 u0 u1 u2 u3 u4 u5 u6 u7).setCell ⟨b1, 0, none⟩ v1).setCell ⟨b2, 0, none⟩ v2).alloc o).drew = w9) :
    Box8 w9 b0 43 u0 u1 u2 u3 u4 u5 u6 u7 ∧ w9.heap[b1]? = some (.cells #[v1] t1 (0, 0)) ∧ w9.heap[b2]? = some (.cells #[v2] t2 (0, 0)) ∧ ∀ n, n ≤ b0 → n ≤ b1 → n ≤ b2 → n ≤ w.heap.size → Below n w w9 := by
  subst he
  have s0 := h0.set (v0 := u0) (v1 := u1) (v2 := u2) (v3 := u3) (v4 := u4) (v5 := u5) (v6 := u6) (v7 := u7)
  have s1 : (set8 w b0 u0 u1 u2 u3 u4 u5 u6 u7).heap[b1]? = some (.cells #[z1] t1 (0, 0)) := (set8_other (fun e => n1 e.symm)).trans h1
  have s2 : (set8 w b0 u0 u1 u2 u3 u4 u5 u6 u7).heap[b2]? = some (.cells #[z2] t2 (0, 0)) := (set8_other (fun e => n2 e.symm)).trans h2
  obtain ⟨S, hS⟩ : ∃ S, set8 w b0 u0 u1 u2 u3 u4 u5 u6 u7 = S := ⟨_, rfl⟩
  have hbel : ∀ n, n ≤ b0 → Below n w S := fun n hn => hS ▸ below_set8 (Below.refl n w) hn
  rw [hS] at s0 s1 s2 ⊢
  have q1 : (S.setCell ⟨b1, 0, none⟩ v1).heap[b1]? = some (.cells #[v1] t1 (0, 0)) := heap_setOne s1 0 v1
  have q1' : ((S.setCell ⟨b1, 0, none⟩ v1).setCell ⟨b2, 0, none⟩ v2).heap[b1]? = some (.cells #[v1] t1 (0, 0)) := (Below.heap_setCell _ _ _ _ n3).trans q1
  have q2 : ((S.setCell ⟨b1, 0, none⟩ v1).setCell ⟨b2, 0, none⟩ v2).heap[b2]? = some (.cells #[v2] t2 (0, 0)) := heap_setOne ((Below.heap_setCell _ _ _ _ (fun e => n3 e.symm)).trans s2) 0 v2
  have q0 : ((S.setCell ⟨b1, 0, none⟩ v1).setCell ⟨b2, 0, none⟩ v2).heap[b0]? = some (.cells #[u0, u1, u2, u3, u4, u5, u6, u7] 43 (0, 0)) := (Below.heap_setCell _ _ _ _ n2).trans ((Below.heap_setCell _ _ _ _ n1).trans s0)
  refine ⟨((below_one' o).block _ (box_lt q0)).trans q0, ((below_one' o).block _ (box_lt q1')).trans q1', ((below_one' o).block _ (box_lt q2)).trans q2, fun n a b c d => ?_⟩
  have e1 := ((hbel n a).setCell (p := ⟨b1, 0, none⟩) b v1).setCell (p := ⟨b2, 0, none⟩) c v2
  exact e1.trans (((below_one' o).mono (Nat.le_trans d (by have := e1.size; omega))).drew)
theorem fault_is (er q : Int) (w : World) : (Instr.typeAssert (.iface 93 (.agg #[.int .i64 er, .int .i64 q])) 20 93 false).run Tryd.prog w = .ok (.agg #[.int .i64 er, .int .i64 q]) w := by kernel_rfl
set_option maxRecDepth 100000 in
set_option maxHeartbeats 4000000 in
theorem p_catch (b0 b1 b2 : Nat) (er q : Int) (older : List PanicEntry) (w : World) (y0 y1 y2 y3 y4 y5 y6 y7 z1 z2 : Value) (h0 : Box8 w b0 43 y0 y1 y2 y3 y4 y5 y6 y7) (h1 : w.heap[b1]? = some (.cells #[z1] 23 (0, 0))) (h2 : w.heap[b2]? = some (.cells #[z2] 3 (0, 0))) (hn : b0 ≠ b1 ∧ b0 ≠ b2 ∧ b1 ≠ b2) :
    CallsD Tryd.prog 56 #[.pointer (some ⟨b0, 0, none⟩), .pointer (some ⟨b1, 0, none⟩), .pointer (some ⟨b2, 0, none⟩)] (.panicking ({ v := .iface 93 (.agg #[.int .i64 er, .int .i64 q]), recovered := false } :: older)) w fun e u' w' =>
      e = .returned (.tuple #[]) ∧ u' = .panicking ({ v := .iface 93 (.agg #[.int .i64 er, .int .i64 q]), recovered := true } :: older) ∧ ZeroBox w' b0 ∧ w'.heap[b1]? = some (.cells #[.int .i64 er] 23 (0, 0)) ∧ w'.heap[b2]? = some (.cells #[.int .i64 q] 3 (0, 0)) ∧ ∀ n, n ≤ b0 → n ≤ b1 → n ≤ b2 → n ≤ w.heap.size → Below n w w' := by
  refine callsD_of_wpS Tryd.func56 rfl fun c₀ cs hu => ?_
  apply wpS_seq
  apply wpS_region
  simp [wpOpsS, go_sem, recoverD, hu, Tryd.ntmps56, Exit.thenS]
  refine wpS_of_wp ?_
  show Code.wp _ _ _ { tmps := #[.pointer (some ⟨b0, 0, none⟩), .pointer (some ⟨b1, 0, none⟩), .pointer (some ⟨b2, 0, none⟩), .iface 93 (.agg #[.int .i64 er, .int .i64 q]), undef, .iface 93 (.agg #[.int .i64 er, .int .i64 q]), undef, undef, undef, undef, undef, undef, undef, undef, undef], defers := [] } _
  obtain ⟨x0, x1, x2, x3, x4, x5, x6, x7, xf⟩ := Box8.cells h0
  have z1c : w.cell? ⟨b1, 0, none⟩ = some z1 := by rw [Lib.cell_of_heap h1]; rfl
  have z2c : w.cell? ⟨b2, 0, none⟩ = some z2 := by rw [Lib.cell_of_heap h2]; rfl
  have f1 : w.frozen? ⟨b1, 0, none⟩ = false := Lib.frozen_of_heap h1 0
  have f2 : w.frozen? ⟨b2, 0, none⟩ = false := Lib.frozen_of_heap h2 0
  have f3 := xf 0
  have f4 := xf 1
  have f5 := xf 2
  have f6 := xf 3
  have f7 := xf 4
  have f8 := xf 5
  have f9 := xf 6
  have f10 := xf 7
  have l0 := Box8.lt h0
  have l1 := box_lt h1
  have l2 := box_lt h2
  obtain ⟨n1, n2, n3⟩ := hn
  have n4 : ¬ b1 = b0 := fun e => n1 e.symm
  have n5 : ¬ b2 = b0 := fun e => n2 e.symm
  have n6 : ¬ b2 = b1 := fun e => n3 e.symm
  clear xf
  have hta := fault_is er q
  go_upto_region 3 with fail
  go_region
  refine ⟨rfl, _, rfl, .tuple #[], by simp [results, Tryd.results56], rfl, rfl, ?_⟩
  exact catch_done h0 h1 h2 n1 n2 n3 (.int .i64 0) (.int .i64 0) (.string ⟨#[]⟩) (.int .i64 0) (.string ⟨#[]⟩) (.slice none 0 0) (.slice none 0 0) (.slice none 0 0) (.int .i64 er) (.int .i64 q) _ _ rfl
end Go.Proofs.YthnefcodjkllgaaDoor
