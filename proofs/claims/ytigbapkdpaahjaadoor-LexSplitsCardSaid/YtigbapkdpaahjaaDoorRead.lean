/-
  The walks of Read of both sides: which number a text is, or what is wrong: both are what the plain function ReadV says. Condition: the text has at most maxLen bytes.
-/
import Derived.Test.YtigbapkdpaahjaaDoorNums
namespace Go.Proofs.YtigbapkdpaahjaaDoor
open Go.RowKit
def isDig (c : UInt8) : Bool := decide (48 ≤ c.toNat) && decide (c.toNat ≤ 57)
/-- Digits without a leading 0, or 0 itself. -/
def isNum (l : List UInt8) : Bool := l.all isDig && (decide (l = [48]) || (decide (l ≠ []) && decide (l.head? ≠ some 48)))
/-- The number so far is n; none if it grows too much. -/
def readGo (n : Int) : List UInt8 → Option Int
  | [] => some n
  | c :: r => if (4611686018427387903 - ((c.toNat : Int) - 48)) / 10 < n then none else readGo (10 * n + ((c.toNat : Int) - 48)) r
def ReadV (l : List UInt8) : Int × Int :=
  if isNum l = true then (match readGo 0 l with | some n => (n, 0) | none => (0, 2)) else (0, 5)
theorem take_snoc (s : ByteArray) (k : Nat) (h : k < s.size) : s.data.toList.take (k + 1) = s.data.toList.take k ++ [s[k]] := by
  rw [List.take_succ_eq_append_getElem (by simpa using h)]; rfl
theorem drop_cons (s : ByteArray) (k : Nat) (h : k < s.size) : s.data.toList.drop k = s[k] :: s.data.toList.drop (k + 1) := by
  rw [List.drop_eq_getElem_cons (by simpa using h)]; rfl
theorem drop_end (s : ByteArray) : s.data.toList.drop s.size = [] := by
  rw [List.drop_eq_nil_iff]
  exact Nat.le_refl _
theorem take_end (s : ByteArray) : s.data.toList.take s.size = s.data.toList := List.take_of_length_le (Nat.le_refl _)
theorem dig_yes {c : UInt8} (h0 : ¬ (c.toNat : Int) < 48) (h1 : ¬ 57 < (c.toNat : Int)) : isDig c = true := by
  unfold isDig
  simp
  omega
theorem dig_lo {c : UInt8} (h0 : (c.toNat : Int) < 48) : isDig c = false := by
  unfold isDig
  simp
  omega
theorem dig_hi {c : UInt8} (h0 : 57 < (c.toNat : Int)) : isDig c = false := by
  unfold isDig
  simp
  omega
theorem all_not (s : ByteArray) (k : Nat) (h : k < s.size) (hc : isDig s[k] = false) : s.data.toList.all isDig = false := by
  rw [← List.take_append_drop k s.data.toList, List.all_append, drop_cons s k h]
  simp [hc]
theorem all_step (s : ByteArray) (k : Nat) (h : k < s.size) (ha : (s.data.toList.take k).all isDig = true) (hc : isDig s[k] = true) : (s.data.toList.take (k + 1)).all isDig = true := by
  rw [take_snoc s k h, List.all_append, ha]
  simp [hc]
theorem list_of (s : ByteArray) : s.toList = s.data.toList := ByteArray.toList_eq s
theorem head_of (s : ByteArray) (h : 0 < s.size) : s.data.toList.head? = some s[0] := by
  have := drop_cons s 0 h
  rw [List.drop_zero] at this
  rw [this]
  rfl
theorem empty_of (s : ByteArray) (h : ¬ 0 < s.size) : s.data.toList = [] := by
  rw [← List.length_eq_zero_iff]
  have : s.data.toList.length = s.size := rfl
  omega
theorem isNum_one (s : ByteArray) (h : s.toList = [48]) : isNum s.data.toList = true := by
  rw [list_of] at h
  rw [h]
  decide
theorem isNum_none (s : ByteArray) (h : ¬ 0 < s.size) : isNum s.data.toList = false := by
  rw [empty_of s h]
  decide
theorem isNum_more (s : ByteArray) (h1 : ¬ s.toList = [48]) (h : 0 < s.size) (ha : s.data.toList.all isDig = true) : isNum s.data.toList = ((s[0].toNat : Int) != 48) := by
  rw [list_of] at h1
  unfold isNum
  rw [ha, head_of s h]
  have h2 : s.data.toList ≠ [] := by
    intro e
    have : s.data.toList.length = s.size := rfl
    rw [e] at this
    simp at this
    omega
  have h3 : (s[0] = 48) ↔ ((s[0].toNat : Int) = 48) := by
    rw [← UInt8.toNat_inj]
    have : (48 : UInt8).toNat = 48 := rfl
    rw [this]
    omega
  rw [Bool.eq_iff_iff]
  simp [h1, h2, h3]
set_option maxHeartbeats 400000 in
theorem word_isNumeral (s : ByteArray) (w : World) (hs : s.size ≤ maxLen) : Calls Tryd.prog 46 #[.string s] w fun e w' => e = .returned (.bool (isNum s.data.toList)) ∧ w = w' := by
  unfold maxLen at hs
  go_enter Tryd.func46, Tryd.ntmps46
  go_wp2
  go_loop [6] (fun i => ∃ k : Nat, k ≤ s.size ∧ i = .int .i64 k ∧ (s.data.toList.take k).all isDig = true) (fun i => s.size - (intOf i).toNat)
  case atStart => exact ⟨0, Nat.zero_le _, rfl, rfl⟩
  case round =>
    obtain ⟨k, hk, rfl, hall⟩ := hrel
    have HA := Lib.hid hall
    clear hall
    by_cases hlt : k < s.size
    · by_cases h0 : (s[k].toNat : Int) < 48
      · have HF := Lib.hid (all_not s k hlt (dig_lo h0))
        go_wp2
        go_ret
        exact ⟨ret_bool (by unfold isNum; rw [HF.out]; rfl), rfl⟩
      · by_cases h1 : 57 < (s[k].toNat : Int)
        · have HF := Lib.hid (all_not s k hlt (dig_hi h1))
          go_wp2
          go_ret
          exact ⟨ret_bool (by unfold isNum; rw [HF.out]; rfl), rfl⟩
        · have HN := Lib.hid (all_step s k hlt HA.out (dig_yes h0 h1))
          go_wp2
          go_round
          case rel => exact ⟨k + 1, by omega, by go_num, HN.out⟩
          case measure => simp [intOf]; omega
    · obtain rfl : k = s.size := by omega
      rw [take_end] at HA
      by_cases e1 : s.toList = [48]
      · have HF := Lib.hid (isNum_one s e1)
        have e2 : (s.toList == [48]) = true := by rw [e1]; rfl
        clear e1
        go_wp2
        go_ret
        exact ⟨ret_bool HF.out.symm, rfl⟩
      · have e2 : (s.toList == [48]) = false := by simpa using e1
        by_cases e3 : 0 < s.size
        · have HF := Lib.hid (isNum_more s e1 e3 HA.out)
          have e4 : s.toList.isEmpty = false := by
            rw [list_of, List.isEmpty_eq_false_iff]
            intro e
            have : s.data.toList.length = s.size := rfl
            rw [e] at this
            simp at this
            omega
          clear e1
          go_wp2
          go_ret
          exact ⟨ret_bool HF.out.symm, rfl⟩
        · have HF := Lib.hid (isNum_none s e3)
          have e4 : s.toList.isEmpty = true := by rw [list_of, empty_of s e3]; rfl
          clear e1
          go_wp2
          go_ret
          exact ⟨ret_bool HF.out.symm, rfl⟩
theorem readGo_yes (n : Int) (s : ByteArray) (k : Nat) (h : k < s.size) (hc : ¬ (4611686018427387903 - ((s[k].toNat : Int) - 48)) / 10 < n) : readGo n (s.data.toList.drop k) = readGo (10 * n + ((s[k].toNat : Int) - 48)) (s.data.toList.drop (k + 1)) := by
  rw [drop_cons s k h, readGo, if_neg hc]
theorem readGo_no (n : Int) (s : ByteArray) (k : Nat) (h : k < s.size) (hc : (4611686018427387903 - ((s[k].toNat : Int) - 48)) / 10 < n) : readGo n (s.data.toList.drop k) = none := by
  rw [drop_cons s k h, readGo, if_pos hc]
theorem dig_at (s : ByteArray) (k : Nat) (h : k < s.size) (ha : s.data.toList.all isDig = true) : 48 ≤ (s[k].toNat : Int) ∧ (s[k].toNat : Int) ≤ 57 := by
  have h1 : isDig s[k] = true := by
    rw [List.all_eq_true] at ha
    exact ha _ (Array.getElem_mem_toList (xs := s.data) (by exact h))
  unfold isDig at h1
  simp at h1
  omega
theorem readV_num {l : List UInt8} {n : Int} (h : isNum l = true) (h2 : readGo 0 l = some n) : ReadV l = (n, 0) := by
  unfold ReadV
  rw [if_pos h, h2]
theorem readV_big {l : List UInt8} (h : isNum l = true) (h2 : readGo 0 l = none) : ReadV l = (0, 2) := by
  unfold ReadV
  rw [if_pos h, h2]
theorem readV_form {l : List UInt8} (h : isNum l = false) : ReadV l = (0, 5) := by
  unfold ReadV
  rw [h]
  rfl
theorem two_read {l : List UInt8} {x y : Int} (w : World) (h : ReadV l = (x, y)) : Two (ReadV l).1 (ReadV l).2 w (.returned (.tuple #[.int .i64 x, .int .i64 y])) w := by
  rw [h]
  exact ⟨rfl, rfl⟩
set_option maxHeartbeats 400000 in
theorem word_Read (s : ByteArray) (w : World) (hs : s.size ≤ maxLen) : Calls Tryd.prog 39 #[.string s] w (Two (ReadV s.data.toList).1 (ReadV s.data.toList).2 w) := by
  by_cases hn : isNum s.data.toList = true
  · have HN := Lib.hid hn
    have hi := (word_isNumeral s w hs)
    rw [hn] at hi
    have HI := Lib.hid hi
    have hd := fun k (h : k < s.size) => dig_at s k h (by unfold isNum at hn; simp only [Bool.and_eq_true] at hn; exact hn.1)
    have HD := Lib.hid hd
    unfold maxLen at hs
    clear hn hi hd
    go_enter Tryd.func39, Tryd.ntmps39
    go_wp2_with fail
    refine HI.out.mono ?_
    rintro e w' ⟨rfl, rfl⟩
    go_wp2_with fail
    go_loop [4, 12] (fun m i => ∃ (k : Nat) (n : Int), k ≤ s.size ∧ i = .int .i64 k ∧ m = .int .i64 n ∧ 0 ≤ n ∧ n ≤ 4611686018427387903 ∧ readGo 0 s.data.toList = readGo n (s.data.toList.drop k)) (fun _ i => s.size - (intOf i).toNat)
    case atStart => exact ⟨0, 0, Nat.zero_le _, rfl, rfl, Int.le_refl _, by omega, rfl⟩
    case round =>
      obtain ⟨k, n, hk, rfl, rfl, hn0, hn1, hrel⟩ := hrel
      have HR := Lib.hid hrel
      clear hrel
      by_cases hlt : k < s.size
      · obtain ⟨hc0, hc1⟩ := HD.out k hlt
        by_cases hbig : (4611686018427387903 - ((s[k].toNat : Int) - 48)) / 10 < n
        · have HF := Lib.hid (readV_big HN.out (HR.out.trans (readGo_no n s k hlt hbig)))
          go_wp2
          go_ret2
          exact two_read _ HF.out
        · have HF := Lib.hid (HR.out.trans (readGo_yes n s k hlt hbig))
          go_wp2
          go_round
          case rel => exact ⟨k + 1, 10 * n + ((s[k].toNat : Int) - 48), by omega, by go_num, rfl, by omega, by omega, HF.out⟩
          case measure => simp [intOf]; omega
      · obtain rfl : k = s.size := by omega
        have HF := Lib.hid (readV_num HN.out (HR.out.trans (by rw [drop_end]; rfl)))
        go_wp2
        go_ret2
        exact two_read _ HF.out
  · have hn' : isNum s.data.toList = false := by simpa using hn
    have HN := Lib.hid (readV_form hn')
    have hi := (word_isNumeral s w hs)
    rw [hn'] at hi
    have HI := Lib.hid hi
    clear hn hn' hi
    go_enter Tryd.func39, Tryd.ntmps39
    go_wp2_with fail
    refine HI.out.mono ?_
    rintro e w' ⟨rfl, rfl⟩
    go_wp2_with fail
    go_ret2
    exact two_read _ HN.out
end Go.Proofs.YtigbapkdpaahjaaDoor
