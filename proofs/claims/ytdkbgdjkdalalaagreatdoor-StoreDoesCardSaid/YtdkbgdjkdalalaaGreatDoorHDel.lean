/-
  The walk of the library's Delete of one element, at a row of runs.
-/
import Derived.Test.YtdkbgdjkdalalaaGreatDoorHRuns
import Derived.Test.YtdkbgdjkdalalaaGreatDoorHOwn
namespace Go.Proofs.YtdkbgdjkdalalaaGreatDoor
open Go.RowKit
theorem infoRun : (Tryz.prog.info? 97).map (fun i => (i.zero, i.size, i.bytes)) = some (some (.agg #[.int .i64 0, .int .i64 0]), 2, 16) := by kernel_rfl
/-- A row of runs is returned: it lies where the old one lay, or is new. -/
def RunsMade (g : Nat) (l : List (Nat × Nat)) (w : World) (e : Ending) (w' : World) : Prop :=
  ∃ g' k', e = .returned (.slice (some ⟨g', 0, none⟩) l.length k') ∧ Runs w' g' k' l ∧ w.grownBy w' (some g) ∧ (g' = g ∨ w.heap.size ≤ g')
theorem agg2_one : ∀ v ∈ (Value.cells (.agg #[Value.int IntKind.i64 0, Value.int IntKind.i64 0])).toList, v.oneCell' = true := by
  intro v hv
  simp [Value.cells] at hv
  subst hv; rfl
theorem grown_undrew {a w : World} {row : Option Nat} (h : a.drew.grownBy w row) : a.grownBy w row := ⟨h.os, h.tape, h.output, h.size, h.block⟩
theorem grown_trans' {a b c : World} {row : Option Nat} (h : a.grownBy b row) (k : b.grownBy c row) : a.grownBy c row :=
  ⟨k.os.trans h.os, k.tape.trans h.tape, k.output.trans h.output, Nat.le_trans h.size k.size, fun i hi hne => (k.block i (Nat.lt_of_lt_of_le hi h.size) hne).trans (h.block i hi hne)⟩
def dropAt (l : List (Nat × Nat)) (i : Nat) : List (Nat × Nat) := l.take i ++ l.drop (i + 1)
theorem dropAt_len (l : List (Nat × Nat)) (i : Nat) (h : i < l.length) : (dropAt l i).length = l.length - 1 := by
  simp [dropAt]; omega
set_option maxHeartbeats 1000000 in
set_option maxRecDepth 100000 in
theorem delete_core (g k i m : Nat) (l : List (Nat × Nat)) (w : World) (hr : Runs w g k l) (hl : l.length = i + (m + 1)) (_hn : l.length ≤ 65536) :
    Calls Tryz.prog 97 #[.slice (some ⟨g, 0, none⟩) (i + (m + 1)) k, .int .i64 (i : Int), .int .i64 ((i : Int) + 1)] w (RunsMade g (dropAt l i) w) := by
  obtain ⟨i0, hi0, hz0, hz1, hz2⟩ := info_parts infoRun
  have hcap := hr.cap
  unfold maxLen at hcap
  have B0 : ((i : Int) == (i : Int) + 1) = false := by simp; omega
  have hck : i + (m + 1) ≤ k := by omega
  have hk2 := hcap.2
  have hik : ¬ (k = i) := by omega
  have hik2 : ¬ (k = i + m) := by omega
  have hcut := own_cut hr i (by omega)
  have hwr : IntKind.i64.wrap ((i : Int) + 1) = (i : Int) + 1 := by rw [IntKind.wrap_i64]; omega
  obtain ⟨A, hA, hnews⟩ : ∃ A : Addr, (if k = i + 1 then some (⟨g, 0, none⟩ : Addr) else some ⟨g, (i + 1) * 2, none⟩) = some A ∧ Hid (∀ W : World, W.heap = w.heap → ∀ j u, (rcs (l.drop (i + 1)))[j]? = some u → W.cell? (A.add j) = some u) := by
    by_cases h : k = i + 1
    · refine ⟨⟨g, 0, none⟩, by simp [h], Lib.hid fun W hW j u hu => ?_⟩
      have : l.drop (i + 1) = [] := List.drop_eq_nil_of_le (by omega)
      rw [this] at hu
      simp [rcs] at hu
    · refine ⟨⟨g, (i + 1) * 2, none⟩, by simp [h], Lib.hid fun W hW j u hu => ?_⟩
      rw [Addr.add_lit]
      rw [rcs_drop, List.getElem?_drop] at hu
      have hj : (i + 1) * 2 + j < (rcs l).length := (List.getElem?_eq_some_iff.1 hu).1
      rw [rcs_len] at hj
      have := World.ownsRow.cellAt hr ((i + 1) * 2 + j) hj
      rw [World.cell?_of_block (w := w) (w' := W) (by rw [hW]), this]
      exact hu
  have hnl := Lib.hid (show (rcs (l.drop (i + 1))).length = m * 2 by rw [rcs_len, List.length_drop]; omega)
  have hic : i ≤ k := by omega
  have hp0 : (0 : Int) ≤ (i : Int) + 1 := by omega
  have hp1 : (i : Int) + 1 ≤ (i : Int) + ((m : Int) + 1) := by omega
  have hp2 : ((i : Int) + 1).toNat = i + 1 := by omega
  have hp3 : i + (m + 1) - (i + 1) = m := by omega
  have hp4 : i + (m + 1) - (i + m) = 1 := by omega
  have HL := Lib.hid hl
  have HCUT := Lib.hid hcut
  have HR := Lib.hid hr
  clear hcap hl hcut hr
  go_enter Tryz.func97, Tryz.ntmps97
  go_wp2
  go_region_law ((refine step_append_within rfl (.tmp 22) (.tmp 25) 99 rfl i0 Tryz.underlying99 hi0 hz1 (by simp [Act.eval, Act.put]) HCUT.out A m (k - (i + 1)) (rcs (l.drop (i + 1))) (by simp [Act.eval, Act.put]; try omega) hnl.out (hnews.out _ rfl) (rcs_one _) (by omega) ?_); intro w1 hown1 hg1)
  have HO := Lib.hid hown1
  have HG := Lib.hid hg1
  clear hown1 hg1
  go_wp2
  obtain ⟨w2, vs, hrun, hvl, ha⟩ := run_clear_own (P := Tryz.prog) (w := w1) (size := 2) 99 0 i0 _ Tryz.underlying99 hi0 hz0 rfl agg2_one (by decide) ((i + m) * 2) 0 (k - (i + m)) HO.out (by omega)
  rw [hrun]
  simp only [Result.andThen]
  rw [Oper.upon_value]
  clear hrun
  have HA := Lib.hid ha
  clear ha
  go_wp2_with fail
  go_ret
  have hlen : (dropAt l i).length = i + m := by rw [dropAt_len l i (by rw [HL.out]; omega), HL.out]; omega
  refine ⟨g, k, by rw [hlen]; rfl, ?_, grown_trans' (grown_undrew HG.out) HA.out.1, .inl rfl⟩
  unfold Runs
  rw [hlen]
  refine HA.out.2 (i + m) _ (by omega) ⟨by rw [rcs_len, hlen], fun j hj => .inr ⟨by omega, hj, ?_⟩⟩
  rw [← rcs_take, ← rcs_append]
  rfl
theorem delete_any (g k i : Nat) (l : List (Nat × Nat)) (w : World) (hr : Runs w g k l) (hi : i < l.length) (hn : l.length ≤ 65536) :
    Calls Tryz.prog 97 #[.slice (some ⟨g, 0, none⟩) l.length k, .int .i64 (i : Int), .int .i64 ((i : Int) + 1)] w (RunsMade g (dropAt l i) w) := by
  obtain ⟨m, hm⟩ : ∃ m, l.length = i + (m + 1) := ⟨l.length - i - 1, by omega⟩
  have h := delete_core g k i m l w hr hm hn
  rw [← hm] at h
  exact h
end Go.Proofs.YtdkbgdjkdalalaaGreatDoor
