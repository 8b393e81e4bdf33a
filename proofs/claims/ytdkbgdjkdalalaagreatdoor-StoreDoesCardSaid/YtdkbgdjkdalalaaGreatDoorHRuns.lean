/-
  The walks of the calls on a row of runs: the search of the first that is long enough.
-/
import Derived.Test.YtdkbgdjkdalalaaGreatDoorHLeaf
import Derived.Maps.AppendAt
namespace Go.Proofs.YtdkbgdjkdalalaaGreatDoor
open Go.RowKit
/-- Runs of cells, as values: where each begins, and how many it has. -/
def rcs (l : List (Nat × Nat)) : List Value := l.flatMap fun r => [Value.int .i64 (r.1 : Int), Value.int .i64 (r.2 : Int)]
theorem rcs_nil : rcs [] = [] := rfl
theorem rcs_cons (r : Nat × Nat) (l : List (Nat × Nat)) : rcs (r :: l) = Value.int .i64 (r.1 : Int) :: Value.int .i64 (r.2 : Int) :: rcs l := rfl
theorem rcs_append (l k : List (Nat × Nat)) : rcs (l ++ k) = rcs l ++ rcs k := by simp [rcs]
theorem rcs_len (l : List (Nat × Nat)) : (rcs l).length = l.length * 2 := by
  induction l with
  | nil => rfl
  | cons r l ih => rw [rcs_cons, List.length_cons, List.length_cons, ih, List.length_cons]; omega
theorem rcs_at (l : List (Nat × Nat)) (i : Nat) (h : i < l.length) : (rcs l)[i * 2]? = some (.int .i64 ((l.getD i (0, 0)).1 : Nat)) ∧ (rcs l)[i * 2 + 1]? = some (.int .i64 ((l.getD i (0, 0)).2 : Nat)) := by
  induction l generalizing i with
  | nil => simp at h
  | cons r l ih =>
    cases i with
    | zero => exact ⟨rfl, rfl⟩
    | succ i =>
      have := ih i (by simpa using h)
      rw [rcs_cons, show (i + 1) * 2 = i * 2 + 1 + 1 by omega, show i * 2 + 1 + 1 + 1 = (i * 2 + 1) + 1 + 1 by omega]
      simpa using this
theorem rcs_take (l : List (Nat × Nat)) (i : Nat) : rcs (l.take i) = (rcs l).take (i * 2) := by
  induction l generalizing i with
  | nil => simp [rcs]
  | cons r l ih =>
    cases i with
    | zero => simp [rcs]
    | succ i => rw [List.take_succ_cons, rcs_cons, rcs_cons, ih, show (i + 1) * 2 = i * 2 + 1 + 1 by omega, List.take_succ_cons, List.take_succ_cons]
theorem rcs_drop (l : List (Nat × Nat)) (i : Nat) : rcs (l.drop i) = (rcs l).drop (i * 2) := by
  induction l generalizing i with
  | nil => simp [rcs]
  | cons r l ih =>
    cases i with
    | zero => simp [rcs]
    | succ i => rw [List.drop_succ_cons, rcs_cons, ih, show (i + 1) * 2 = i * 2 + 1 + 1 by omega, List.drop_succ_cons, List.drop_succ_cons]
theorem rcs_one (l : List (Nat × Nat)) : ∀ u ∈ rcs l, u.oneCell' = true := by
  intro u hu
  simp only [rcs, List.mem_flatMap] at hu
  obtain ⟨r, _, hr⟩ := hu
  simp at hr
  rcases hr with rfl | rfl <;> rfl
/-- The row of runs l lies at the head of block g, with space for k. -/
def Runs (w : World) (g k : Nat) (l : List (Nat × Nat)) : Prop := w.ownsRow 0 97 2 (.slice (some ⟨g, 0, none⟩) l.length k) l.length (rcs l)
theorem Runs.at1 {w : World} {g k : Nat} {l : List (Nat × Nat)} (h : Runs w g k l) (i : Nat) (hi : i < l.length) : w.cell? ⟨g, i * 2, none⟩ = some (.int .i64 ((l.getD i (0, 0)).1 : Nat)) := by
  rw [World.ownsRow.cellAt h _ (by omega)]; exact (rcs_at l i hi).1
theorem Runs.at2 {w : World} {g k : Nat} {l : List (Nat × Nat)} (h : Runs w g k l) (i : Nat) (hi : i < l.length) : w.cell? ⟨g, i * 2 + 1, none⟩ = some (.int .i64 ((l.getD i (0, 0)).2 : Nat)) := by
  rw [World.ownsRow.cellAt h _ (by omega)]; exact (rcs_at l i hi).2
theorem Runs.frozen {w : World} {g k : Nat} {l : List (Nat × Nat)} (h : Runs w g k l) (i : Nat) : w.frozen? ⟨g, i, none⟩ = false := World.ownsRow.frozenAt h i
theorem Runs.keep {w w' : World} {g k : Nat} {l : List (Nat × Nat)} (h : Runs w g k l) (hb : w'.heap[g]? = w.heap[g]?) : Runs w' g k l := by
  refine ⟨h.1, ?_⟩
  rcases h.2 with ⟨he, _⟩ | ⟨g', cap, cur, he, hr⟩
  · simp at he
  · simp only [Value.slice.injEq, Option.some.injEq, Addr.mk.injEq, and_true, true_and] at he
    obtain ⟨rfl, rfl⟩ := he
    exact .inr ⟨g, k, cur, rfl, hr.1, hb.trans hr.2.1, hr.2.2⟩
theorem Runs.lt {w : World} {g k : Nat} {l : List (Nat × Nat)} (h : Runs w g k l) : g < w.heap.size := (World.ownsRow.lt h g rfl).2
theorem Runs.cap {w : World} {g k : Nat} {l : List (Nat × Nat)} (h : Runs w g k l) : l.length ≤ k ∧ k ≤ maxLen := by
  rcases h.2 with ⟨he, _⟩ | ⟨g', cap, cur, he, hr⟩
  · simp at he
  · simp only [Value.slice.injEq, Option.some.injEq, Addr.mk.injEq, and_true, true_and] at he
    obtain ⟨rfl, rfl⟩ := he
    exact ⟨hr.2.2.1, hr.2.2.2.1⟩
/-- The place of the first run that has so many cells; the length where there is none. -/
def fitAt (l : List (Nat × Nat)) (m : Nat) : Nat := l.findIdx fun r => decide (m ≤ r.2)
theorem fitAt_of (l : List (Nat × Nat)) (m i : Nat) (hi : i < l.length) (h1 : m ≤ (l.getD i (0, 0)).2) (h2 : ∀ j, j < i → (l.getD j (0, 0)).2 < m) : fitAt l m = i := by
  unfold fitAt
  rw [List.findIdx_eq hi]
  refine ⟨by simpa [List.getD_eq_getElem?_getD, List.getElem?_eq_getElem hi] using h1, fun j hj => ?_⟩
  have := h2 j hj
  simpa [List.getD_eq_getElem?_getD, List.getElem?_eq_getElem (show j < l.length by omega)] using this
theorem fitAt_none (l : List (Nat × Nat)) (m : Nat) (h2 : ∀ j, j < l.length → (l.getD j (0, 0)).2 < m) : fitAt l m = l.length := by
  unfold fitAt
  rw [List.findIdx_eq_length]
  intro r hr
  obtain ⟨j, hj, rfl⟩ := List.getElem_of_mem hr
  have := h2 j hj
  simpa [List.getD_eq_getElem?_getD, List.getElem?_eq_getElem hj] using this
def fitInt (l : List (Nat × Nat)) (m : Nat) : Int := if fitAt l m < l.length then (fitAt l m : Nat) else -1
/-- A number is returned; what was there stands. -/
def IntMade (n : Int) (w : World) (e : Ending) (w' : World) : Prop := e = .returned (.int .i64 n) ∧ Below w.heap.size w w'
def NoFit (l : List (Nat × Nat)) (m i : Nat) : Prop := ∀ j, j < i → (l.getD j (0, 0)).2 < m
theorem take1_yes (a n m : Nat) (q : Nat) (w : World) (hq : w.cell? ⟨q, 0, none⟩ = some (.int .i64 (m : Int))) (h : m ≤ n) : Calls Tryz.prog 96 #[.agg #[.int .i64 (a : Int), .int .i64 (n : Int)], .pointer (some ⟨q, 0, none⟩)] w fun e w' => e = .returned (.bool true) ∧ Below w.heap.size w w' :=
  (take1_any a n m q w hq).mono fun e w' ⟨he, hb⟩ => ⟨by rw [he, decide_eq_true (by omega)], hb⟩
theorem take1_no (a n m : Nat) (q : Nat) (w : World) (hq : w.cell? ⟨q, 0, none⟩ = some (.int .i64 (m : Int))) (h : n < m) : Calls Tryz.prog 96 #[.agg #[.int .i64 (a : Int), .int .i64 (n : Int)], .pointer (some ⟨q, 0, none⟩)] w fun e w' => e = .returned (.bool false) ∧ Below w.heap.size w w' :=
  (take1_any a n m q w hq).mono fun e w' ⟨he, hb⟩ => ⟨by rw [he, decide_eq_false (by omega)], hb⟩
set_option maxHeartbeats 1000000 in
theorem indexFunc_any (g k m q : Nat) (l : List (Nat × Nat)) (w : World) (hr : Runs w g k l) (hq : w.cell? ⟨q, 0, none⟩ = some (.int .i64 (m : Int))) (hn : l.length ≤ 65536) :
    Calls Tryz.prog 95 #[.slice (some ⟨g, 0, none⟩) l.length k, .func (.func 96) #[] #[.pointer (some ⟨q, 0, none⟩)]] w (IntMade (fitInt l m) w) := by
  have hqlt := World.block_lt_of_cell? w (a := ⟨q, 0, none⟩) hq
  have hglt := hr.lt
  go_enter Tryz.func95, Tryz.ntmps95
  go_wp2
  go_loopw [8] (fun vi wr => ∃ i : Nat, i ≤ l.length ∧ vi = .int .i64 i ∧ Hid (NoFit l m i) ∧ Below w.heap.size w wr) (fun vi _ => l.length - (intOf vi).toNat)
  case atStart => exact ⟨0, by omega, by go_num, Lib.hid (fun j hj => by omega), Below.refl _ _⟩
  case round =>
    obtain ⟨i, hil, rfl, HN, hb⟩ := hrel
    by_cases hi : i < l.length
    · have c1 := (hb.cell (p := ⟨g, i * 2, none⟩) hglt).trans (hr.at1 i hi)
      have c2 := (hb.cell (p := ⟨g, i * 2 + 1, none⟩) hglt).trans (hr.at2 i hi)
      have cq := (hb.cell (p := ⟨q, 0, none⟩) hqlt).trans hq
      by_cases hm : m ≤ (l.getD i (0, 0)).2
      · have HF := Lib.hid (fitAt_of l m i hi hm HN.out)
        generalize l.getD i (0, 0) = r at *
        go_wp2_with fail
        refine (take1_yes _ _ m q _ cq hm).mono ?_
        rintro e w1 ⟨rfl, hb1⟩
        have HB := Lib.hid (hb.trans (hb1.mono hb.size))
        clear hb hb1
        go_wp2
        go_ret
        exact ⟨ret_int (by unfold fitInt; rw [HF.out, if_pos hi]), HB.out⟩
      · have HF : Hid (NoFit l m (i + 1)) := Lib.hid (fun j hj => by
          by_cases h : j = i
          · subst h; omega
          · exact HN.out j (by omega))
        generalize l.getD i (0, 0) = r at *
        go_wp2_with fail
        refine (take1_no _ _ m q _ cq (by omega)).mono ?_
        rintro e w1 ⟨rfl, hb1⟩
        have HB := Lib.hid (hb.trans (hb1.mono hb.size))
        clear hb hb1
        go_wp2
        go_roundw
        case rel => exact ⟨i + 1, by omega, by go_num, HF, HB.out⟩
        case measure => simp [intOf]; omega
    · have hi' : l.length ≤ i := by omega
      have HF := Lib.hid (fitAt_none l m (fun j hj => HN.out j (by omega)))
      go_wp2
      go_ret
      exact ⟨ret_int (by unfold fitInt; rw [HF.out, if_neg (by omega)]), hb⟩
end Go.Proofs.YtdkbgdjkdalalaaGreatDoor
