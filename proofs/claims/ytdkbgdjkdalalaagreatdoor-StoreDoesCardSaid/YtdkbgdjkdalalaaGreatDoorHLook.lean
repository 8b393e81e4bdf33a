/-
  The walks of the calls that only look at a heap: New of a wrong number, Words, Room, Longest, Next, Kind, Size.
-/
import Derived.Test.YtdkbgdjkdalalaaGreatDoorHMem
namespace Go.Proofs.YtdkbgdjkdalalaaGreatDoor
open Go.RowKit
theorem new_nil (n : Int) (w : World) (h : n < 2 ∨ 65536 < n) :
    Calls Tryz.prog 28 #[.int .i64 n] w fun e w' => e = .returned (.pointer none) ∧ w = w' := by
  by_cases h1 : n < 2
  · have g0 : decide (n < 2) = true := by rw [decide_eq_true_iff]; omega
    go_enter Tryz.func28, Tryz.ntmps28
    go_wp2_with fail
    go_ret
    exact ⟨rfl, rfl⟩
  · have g0 : decide (n < 2) = false := by rw [decide_eq_false_iff_not]; omega
    have g1 : decide (65536 < n) = true := by rw [decide_eq_true_iff]; omega
    clear h
    go_enter Tryz.func28, Tryz.ntmps28
    go_wp2_with fail
    go_ret
    exact ⟨rfl, rfl⟩
theorem words_any (Y : Lay) (cs ms : List Nat) (rs : List (Nat × Nat)) (w : World) (hm : Mem w Y cs ms rs) :
    Calls Tryz.prog 63 #[.pointer (some ⟨Y.hb, 0, none⟩)] w (OneSame cs.length w) := by
  have c0 := hm.head.cell0
  clear hm
  go_enter Tryz.func63, Tryz.ntmps63
  go_wp2_with fail
  go_ret
  exact ⟨rfl, rfl⟩
def sumR : List (Nat × Nat) → Nat
  | [] => 0
  | r :: l => r.2 + sumR l
def maxR : List (Nat × Nat) → Nat
  | [] => 0
  | r :: l => max r.2 (maxR l)
theorem sumR_append (l k : List (Nat × Nat)) : sumR (l ++ k) = sumR l + sumR k := by
  induction l with
  | nil => simp [sumR]
  | cons r l ih => simp only [List.cons_append, sumR, ih]; omega
theorem maxR_append (l k : List (Nat × Nat)) : maxR (l ++ k) = max (maxR l) (maxR k) := by
  induction l with
  | nil => simp [maxR]
  | cons r l ih => simp only [List.cons_append, maxR, ih]; omega
theorem take_succ (l : List (Nat × Nat)) (i : Nat) (h : i < l.length) : l.take (i + 1) = l.take i ++ [l.getD i (0, 0)] := by
  rw [List.take_succ_eq_append_getElem h, List.getD_eq_getElem?_getD, List.getElem?_eq_getElem h]; rfl
theorem sumR_take (l : List (Nat × Nat)) (i : Nat) (h : i < l.length) : sumR (l.take (i + 1)) = sumR (l.take i) + (l.getD i (0, 0)).2 := by
  rw [take_succ l i h, sumR_append]; rfl
theorem maxR_take (l : List (Nat × Nat)) (i : Nat) (h : i < l.length) : maxR (l.take (i + 1)) = max (maxR (l.take i)) (l.getD i (0, 0)).2 := by
  rw [take_succ l i h, maxR_append]; simp [maxR]
theorem sumR_le (l : List (Nat × Nat)) (i : Nat) : sumR (l.take i) ≤ sumR l := by
  have h : sumR l = sumR (l.take i) + sumR (l.drop i) := by rw [← sumR_append, List.take_append_drop]
  omega
set_option maxHeartbeats 1000000 in
theorem sum_any (g k : Nat) (l : List (Nat × Nat)) (w : World) (hr : Runs w g k l) (hn : l.length ≤ 65536) (hs : sumR l ≤ 65536) :
    Calls Tryz.prog 84 #[.slice (some ⟨g, 0, none⟩) l.length k] w (IntMade (sumR l : Nat) w) := by
  have hglt := hr.lt
  go_enter Tryz.func84, Tryz.ntmps84
  go_wp2
  go_loopw [3, 8] (fun vn vi wr => ∃ i : Nat, i ≤ l.length ∧ vi = .int .i64 i ∧ vn = .int .i64 (sumR (l.take i) : Nat) ∧ Below w.heap.size w wr) (fun _ vi _ => l.length - (intOf vi).toNat)
  case atStart => exact ⟨0, by omega, by go_num, rfl, Below.refl _ _⟩
  case round =>
    obtain ⟨i, hil, rfl, rfl, hb⟩ := hrel
    by_cases hi : i < l.length
    · have c1 := (hb.cell (p := ⟨g, i * 2, none⟩) hglt).trans (hr.at1 i hi)
      have c2 := (hb.cell (p := ⟨g, i * 2 + 1, none⟩) hglt).trans (hr.at2 i hi)
      have HT := Lib.hid (sumR_take l i hi)
      have hle := sumR_le l (i + 1)
      rw [HT.out] at hle
      have HB := Lib.hid (hb.alloc hb.size (.cells #[.int .i64 ((l.getD i (0, 0)).1 : Nat), .int .i64 ((l.getD i (0, 0)).2 : Nat)] 97))
      generalize l.getD i (0, 0) = r at *
      generalize sumR (l.take i) = s at *
      clear hb
      go_wp2
      go_roundw
      case rel => exact ⟨i + 1, by omega, by go_num, by rw [HT.out]; go_num, HB.out⟩
      case measure => simp [intOf]; omega
    · have hi' : l.length ≤ i := by omega
      have HT := Lib.hid (show sumR (l.take i) = sumR l by rw [List.take_of_length_le hi'])
      go_wp2
      go_ret
      exact ⟨ret_int (by rw [HT.out]), hb⟩
theorem max_if (s x : Nat) : Value.int .i64 (if s < x then (x : Int) else (s : Int)) = Value.int .i64 ((max s x : Nat) : Int) := by
  split
  · rw [Nat.max_eq_right (by omega)]
  · rw [Nat.max_eq_left (by omega)]
theorem room_any (Y : Lay) (cs ms : List Nat) (rs : List (Nat × Nat)) (w : World) (hm : Mem w Y cs ms rs) (hn : rs.length ≤ 65536) (hs : sumR rs ≤ 65536) :
    Calls Tryz.prog 56 #[.pointer (some ⟨Y.hb, 0, none⟩)] w (IntMade (sumR rs : Nat) w) := by
  have c2 := hm.head.cell2
  have HC := Lib.hid (sum_any Y.fb Y.kf rs w hm.runs hn hs)
  clear hm hs
  go_enter Tryz.func56, Tryz.ntmps56
  go_wp2_with fail
  refine HC.out.mono ?_
  rintro e w1 ⟨rfl, hb⟩
  have HB := Lib.hid hb
  clear hb
  go_wp2_with fail
  go_ret
  exact ⟨rfl, HB.out⟩
theorem next_any (Y : Lay) (cs ms : List Nat) (rs : List (Nat × Nat)) (a : Int) (w : World) (hm : Mem w Y cs ms rs) (hT : Tab w) (hs : Small ms) (hml : ms.length ≤ 65536) (ha : a ≤ 9223372036854775807) :
    Calls Tryz.prog 101 #[.pointer (some ⟨Y.hb, 0, none⟩), .int .i64 a] w (NextMade ms a.toNat w) := by
  have c1 := hm.head.cell1
  have HC := Lib.hid (from_any Y.mb Y.km a.toNat ms w hT hm.marks hs hml (by omega))
  clear hm hs
  by_cases h : a < 0
  · obtain ⟨z, hz⟩ : ∃ z : Nat, a.toNat = z := ⟨_, rfl⟩
    have hz0 : z = 0 := by omega
    rw [hz] at HC ⊢
    subst hz0
    clear hz
    have g0 : decide (a < 0) = true := by rw [decide_eq_true_iff]; omega
    go_enter Tryz.func101, Tryz.ntmps101
    have HC0 : Hid (Calls Tryz.prog 104 #[.slice (some ⟨Y.mb, 0, none⟩) ms.length Y.km, .int .i64 0] w (NextMade ms 0 w)) := HC
    go_wp2_with fail
    refine HC0.out.mono ?_
    rintro e w' ⟨⟨r, hr, rfl⟩, rfl⟩
    have HN := Lib.hid hr
    clear hr
    go_wp2_with fail
    go_ret
    exact ⟨⟨r, HN.out, rfl⟩, rfl⟩
  · obtain ⟨n, rfl⟩ := Int.eq_ofNat_of_zero_le (show 0 ≤ a by omega)
    rw [Int.toNat_natCast] at HC ⊢
    go_enter Tryz.func101, Tryz.ntmps101
    go_wp2_with fail
    refine HC.out.mono ?_
    rintro e w' ⟨⟨r, hr, rfl⟩, rfl⟩
    have HN := Lib.hid hr
    clear hr
    go_wp2_with fail
    go_ret
    exact ⟨⟨r, HN.out, rfl⟩, rfl⟩
theorem kind_no (Y : Lay) (cs ms : List Nat) (rs : List (Nat × Nat)) (a : Int) (w : World) (hm : Mem w Y cs ms rs) (hs : Small ms) (hml : ms.length = (cs.length + 63) / 64) (hcl : cs.length ≤ 65536) (h : ¬ Holds cs ms a) :
    Calls Tryz.prog 60 #[.pointer (some ⟨Y.hb, 0, none⟩), .int .i64 a] w (TwoSame (.int .i64 0) 7 w) := by
  have HC := Lib.hid (holds_no Y cs ms rs a w hm hs hml hcl h)
  clear hm
  go_enter Tryz.func60, Tryz.ntmps60
  go_wp2_with fail
  refine HC.out.mono ?_
  rintro e w' ⟨rfl, rfl⟩
  go_wp2_with fail
  go_ret2
  exact ⟨rfl, rfl⟩
theorem size_no (Y : Lay) (cs ms : List Nat) (rs : List (Nat × Nat)) (a : Int) (w : World) (hm : Mem w Y cs ms rs) (hs : Small ms) (hml : ms.length = (cs.length + 63) / 64) (hcl : cs.length ≤ 65536) (h : ¬ Holds cs ms a) :
    Calls Tryz.prog 61 #[.pointer (some ⟨Y.hb, 0, none⟩), .int .i64 a] w (TwoSame (.int .i64 0) 7 w) := by
  have HC := Lib.hid (holds_no Y cs ms rs a w hm hs hml hcl h)
  clear hm
  go_enter Tryz.func61, Tryz.ntmps61
  go_wp2_with fail
  refine HC.out.mono ?_
  rintro e w' ⟨rfl, rfl⟩
  go_wp2_with fail
  go_ret2
  exact ⟨rfl, rfl⟩
theorem size_ok (Y : Lay) (cs ms : List Nat) (rs : List (Nat × Nat)) (a n : Nat) (w : World) (hm : Mem w Y cs ms rs) (hs : Small ms) (hml : ms.length = (cs.length + 63) / 64) (hcl : cs.length ≤ 65536) (h0 : 0 < a) (hmk : Marked ms a = true) (hh : cs.getD a 0 / 8 = n) (hfit : a + 1 + n ≤ cs.length) :
    Calls Tryz.prog 61 #[.pointer (some ⟨Y.hb, 0, none⟩), .int .i64 (a : Int)] w (TwoSame (.int .i64 (n : Int)) 0 w) := by
  have HC := Lib.hid (holds_yes Y cs ms rs a w hm hs hml hcl h0 (by omega) hmk)
  have HF := Lib.hid (fields_any Y cs ms rs a n w hm hcl hh hfit)
  clear hm hh
  go_enter Tryz.func61, Tryz.ntmps61
  go_wp2_with fail
  refine HC.out.mono ?_
  rintro e w' ⟨rfl, rfl⟩
  go_wp2_with fail
  refine HF.out.mono ?_
  rintro e w' ⟨rfl, rfl⟩
  generalize fieldsAddr Y a n = A at *
  go_wp2_with fail
  go_ret2
  exact ⟨rfl, rfl⟩
theorem and_seven (x : Nat) (hx : x < 18446744073709551616) : bits BinOp.and IntKind.u64 (x : Int) 7 = ((x % 8 : Nat) : Int) := by
  have h3 := bits_and_u64_nat x 7 hx (by omega)
  rw [show (7 : Int) = ((7 : Nat) : Int) from rfl, h3, show (7 : Nat) = 2 ^ 3 - 1 from rfl, Nat.and_two_pow_sub_one_eq_mod]
theorem kind_ok (Y : Lay) (cs ms : List Nat) (rs : List (Nat × Nat)) (a k : Nat) (w : World) (hm : Mem w Y cs ms rs) (hs : Small ms) (hml : ms.length = (cs.length + 63) / 64) (hcl : cs.length ≤ 65536) (h0 : 0 < a) (h1 : a < cs.length) (hmk : Marked ms a = true) (hc : cs.getD a 0 < 18446744073709551616) (hh : cs.getD a 0 % 8 = k) :
    Calls Tryz.prog 60 #[.pointer (some ⟨Y.hb, 0, none⟩), .int .i64 (a : Int)] w (TwoSame (.int .i64 (k : Int)) 0 w) := by
  have HC := Lib.hid (holds_yes Y cs ms rs a w hm hs hml hcl h0 h1 hmk)
  have c0 := hm.head.cell0
  have e1 := hm.words.cell a h1
  have hv := and_seven _ hc
  rw [hh] at hv
  generalize cs.getD a 0 = x at *
  have hk8 : k < 8 := by omega
  clear hm hh
  go_enter Tryz.func60, Tryz.ntmps60
  go_wp2_with fail
  refine HC.out.mono ?_
  rintro e w' ⟨rfl, rfl⟩
  go_wp2_with fail
  go_ret2
  exact ⟨rfl, rfl⟩
end Go.Proofs.YtdkbgdjkdalalaaGreatDoor
