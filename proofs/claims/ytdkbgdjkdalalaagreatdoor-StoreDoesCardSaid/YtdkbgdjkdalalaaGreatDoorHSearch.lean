/-
  The walk of the library's binary search, over a row of runs in rising order.
-/
import Derived.Test.YtdkbgdjkdalalaaGreatDoorHRuns
namespace Go.Proofs.YtdkbgdjkdalalaaGreatDoor
open Go.RowKit
/-- Where each run begins. -/
def bgn (l : List (Nat × Nat)) (j : Nat) : Nat := (l.getD j (0, 0)).1
/-- All runs ahead of place p begin below t, and all from p on at t or above. -/
def CutAt (l : List (Nat × Nat)) (t p : Nat) : Prop := p ≤ l.length ∧ (∀ j, j < p → bgn l j < t) ∧ ∀ j, p ≤ j → j < l.length → t ≤ bgn l j
/-- The place is returned, and a bool; what was there stands. -/
def CutMade (l : List (Nat × Nat)) (t : Nat) (w : World) (e : Ending) (w' : World) : Prop := ∃ (p : Nat) (b : Bool), CutAt l t p ∧ e = .returned (.tuple #[.int .i64 p, .bool b]) ∧ Below w.heap.size w w'
def Rising (l : List (Nat × Nat)) : Prop := ∀ i j, i < j → j < l.length → bgn l i < bgn l j
def Lows (l : List (Nat × Nat)) (t i : Nat) : Prop := ∀ j, j < i → bgn l j < t
def Highs (l : List (Nat × Nat)) (t i : Nat) : Prop := ∀ j, i ≤ j → j < l.length → t ≤ bgn l j
theorem give1_lt (a n t : Nat) (w : World) (h : a < t) : Calls Tryz.prog 109 #[.agg #[.int .i64 (a : Int), .int .i64 (n : Int)], .int .i64 (t : Int)] w (IntMade (-1) w) :=
  (give1_any a n t w).mono fun e w' ⟨he, hb⟩ => ⟨by rw [he, show cmpI a t = -1 by unfold cmpI; rw [if_pos (by omega)]], hb⟩
theorem give1_eq (a n t : Nat) (w : World) (h : a = t) : Calls Tryz.prog 109 #[.agg #[.int .i64 (a : Int), .int .i64 (n : Int)], .int .i64 (t : Int)] w (IntMade 0 w) :=
  (give1_any a n t w).mono fun e w' ⟨he, hb⟩ => ⟨by rw [he, show cmpI a t = 0 by unfold cmpI; rw [if_neg (by omega), if_neg (by omega)]], hb⟩
theorem give1_gt (a n t : Nat) (w : World) (h : t < a) : Calls Tryz.prog 109 #[.agg #[.int .i64 (a : Int), .int .i64 (n : Int)], .int .i64 (t : Int)] w (IntMade 1 w) :=
  (give1_any a n t w).mono fun e w' ⟨he, hb⟩ => ⟨by rw [he, show cmpI a t = 1 by unfold cmpI; rw [if_neg (by omega), if_pos (by omega)]], hb⟩
set_option maxHeartbeats 1000000 in
theorem search_any (g k t : Nat) (l : List (Nat × Nat)) (w : World) (hr : Runs w g k l) (hs : Rising l) (hn : l.length ≤ 65536) :
    Calls Tryz.prog 108 #[.slice (some ⟨g, 0, none⟩) l.length k, .int .i64 (t : Int), .func (.func 109) #[] #[]] w (CutMade l t w) := by
  have hglt := hr.lt
  go_enter Tryz.func108, Tryz.ntmps108
  go_wp2
  go_loopw [9, 10] (fun vi vj wr => ∃ i j : Nat, i ≤ j ∧ j ≤ l.length ∧ vi = .int .i64 i ∧ vj = .int .i64 j ∧ Hid (Lows l t i) ∧ Hid (Highs l t j) ∧ Below w.heap.size w wr) (fun vi vj _ => (intOf vj).toNat - (intOf vi).toNat)
  case atStart => exact ⟨0, l.length, by omega, by omega, by go_num, rfl, Lib.hid (fun j hj => by omega), Lib.hid (fun j h1 h2 => by omega), Below.refl _ _⟩
  case round =>
    obtain ⟨i, j, hij, hjl, rfl, rfl, HL, HH, hb⟩ := hrel
    by_cases hi : i < j
    · have c1 := (hb.cell (p := ⟨g, (i + j) / 2 * 2, none⟩) hglt).trans (hr.at1 ((i + j) / 2) (by omega))
      have c2 := (hb.cell (p := ⟨g, (i + j) / 2 * 2 + 1, none⟩) hglt).trans (hr.at2 ((i + j) / 2) (by omega))
      by_cases hm : bgn l ((i + j) / 2) < t
      · have HF : Hid (Lows l t ((i + j) / 2 + 1)) := Lib.hid (fun q hq => by
          by_cases h : q = (i + j) / 2
          · subst h; exact hm
          · have := hs q ((i + j) / 2) (by omega) (by omega)
            omega)
        unfold bgn at hm
        generalize l.getD ((i + j) / 2) (0, 0) = r at *
        go_wp2_with fail
        refine (give1_lt _ _ t _ hm).mono ?_
        rintro e w1 ⟨rfl, hb1⟩
        have HB := Lib.hid (hb.trans (hb1.mono hb.size))
        clear hb hb1
        go_wp2
        go_roundw
        case rel => exact ⟨(i + j) / 2 + 1, j, by omega, hjl, by go_num, rfl, HF, HH, HB.out⟩
        case measure => simp [intOf]; omega
      · have HF : Hid (Highs l t ((i + j) / 2)) := Lib.hid (fun q hq1 hq2 => by
          by_cases h : q = (i + j) / 2
          · subst h; omega
          · have := hs ((i + j) / 2) q (by omega) (by omega)
            omega)
        unfold bgn at hm
        generalize l.getD ((i + j) / 2) (0, 0) = r at *
        by_cases he : r.1 = t
        · have HE := Lib.hid he
          clear he
          go_wp2_with fail
          refine (give1_eq _ _ t _ HE.out).mono ?_
          rintro e w1 ⟨rfl, hb1⟩
          have HB := Lib.hid (hb.trans (hb1.mono hb.size))
          clear hb hb1
          go_wp2
          go_roundw
          case rel => exact ⟨i, (i + j) / 2, by omega, by omega, rfl, by go_num, HL, HF, HB.out⟩
          case measure => simp [intOf]; omega
        · have hgt : t < r.1 := by omega
          clear he
          go_wp2_with fail
          refine (give1_gt _ _ t _ hgt).mono ?_
          rintro e w1 ⟨rfl, hb1⟩
          have HB := Lib.hid (hb.trans (hb1.mono hb.size))
          clear hb hb1
          go_wp2
          go_roundw
          case rel => exact ⟨i, (i + j) / 2, by omega, by omega, rfl, by go_num, HL, HF, HB.out⟩
          case measure => simp [intOf]; omega
    · have HC : Hid (CutAt l t i) := Lib.hid ⟨by omega, HL.out, fun q h1 h2 => HH.out q (by omega) h2⟩
      by_cases hil : i < l.length
      · have c1 := (hb.cell (p := ⟨g, i * 2, none⟩) hglt).trans (hr.at1 i hil)
        have c2 := (hb.cell (p := ⟨g, i * 2 + 1, none⟩) hglt).trans (hr.at2 i hil)
        have hm := HC.out.2.2 i (by omega) hil
        unfold bgn at hm
        generalize l.getD i (0, 0) = r at *
        by_cases he : r.1 = t
        · have HE := Lib.hid he
          clear he
          go_wp2_with fail
          refine (give1_eq _ _ t _ HE.out).mono ?_
          rintro e w1 ⟨rfl, hb1⟩
          have HB := Lib.hid (hb.trans (hb1.mono hb.size))
          clear hb hb1
          go_wp2
          go_ret2
          exact ⟨i, _, HC.out, rfl, HB.out⟩
        · have hgt : t < r.1 := by omega
          clear he
          go_wp2_with fail
          refine (give1_gt _ _ t _ hgt).mono ?_
          rintro e w1 ⟨rfl, hb1⟩
          have HB := Lib.hid (hb.trans (hb1.mono hb.size))
          clear hb hb1
          go_wp2
          go_ret2
          exact ⟨i, _, HC.out, rfl, HB.out⟩
      · have hil' : l.length ≤ i := by omega
        go_wp2
        go_ret2
        exact ⟨i, _, HC.out, rfl, hb⟩
end Go.Proofs.YtdkbgdjkdalalaaGreatDoor
