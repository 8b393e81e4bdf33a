/-
  The walk of the reference's Read: what the plain function ReadV says. Condition: the text has at most maxLen bytes.
-/
import Derived.Test.YtigbapkdpaahjaaDoorRead
namespace Go.Proofs.YtigbapkdpaahjaaDoor
open Go.RowKit
theorem isNum_zero (s : ByteArray) (h : 1 < s.size) (h0 : (s[0].toNat : Int) = 48) : isNum s.data.toList = false := by
  have h1 : s[0] = 48 := by
    rw [← UInt8.toNat_inj]
    have : (48 : UInt8).toNat = 48 := rfl
    rw [this]
    omega
  have h2 : s.data.toList ≠ [48] := by
    intro e
    have : s.data.toList.length = s.size := rfl
    rw [e] at this
    simp at this
    omega
  unfold isNum
  rw [head_of s (by omega), h1]
  simp [h2]
theorem isNum_other (s : ByteArray) (h : 0 < s.size) (h0 : ¬ (s[0].toNat : Int) = 48 ∨ ¬ 1 < s.size) : isNum s.data.toList = s.data.toList.all isDig := by
  by_cases hz : (s[0].toNat : Int) = 48
  · have h1 : s[0] = 48 := by
      rw [← UInt8.toNat_inj]
      have : (48 : UInt8).toNat = 48 := rfl
      rw [this]
      omega
    have h3 : s.size = 1 := by omega
    have h2 : s.data.toList = [48] := by
      have := drop_cons s 0 h
      rw [List.drop_zero, h1] at this
      rw [this]
      have h4 := drop_end s
      rw [h3] at h4
      rw [h4]
    rw [h2]
    decide
  · have h1 : ¬ s[0] = 48 := by
      intro e
      rw [e] at hz
      exact hz rfl
    have h2 : s.data.toList ≠ [] := by
      intro e
      have : s.data.toList.length = s.size := rfl
      rw [e] at this
      simp at this
      omega
    unfold isNum
    rw [head_of s h]
    simp [h1, h2]
set_option maxHeartbeats 1000000 in
theorem ref_Read (s : ByteArray) (w : World) (hs : s.size ≤ maxLen) : Calls Tryd.prog 32 #[.string s] w (Two (ReadV s.data.toList).1 (ReadV s.data.toList).2 w) := by
  unfold maxLen at hs
  by_cases h0 : 0 < s.size
  · by_cases hz : (s[0].toNat : Int) = 48 ∧ 1 < s.size
    · obtain ⟨hz0, hz1⟩ := hz
      have HF := Lib.hid (readV_form (isNum_zero s hz1 hz0))
      have e0 : ((s.size : Int) == 0) = false := by rw [beq_eq_false_iff_ne]; omega
      have e1 : ((s[0].toNat : Int) == 48) = true := by rw [beq_iff_eq]; exact hz0
      clear hz0
      go_enter Tryd.func32, Tryd.ntmps32
      go_wp2
      go_ret2
      exact two_read _ HF.out
    · have hI := isNum_other s h0 (by omega)
      have HI := Lib.hid hI
      have e0 : ((s.size : Int) == 0) = false := by rw [beq_eq_false_iff_ne]; omega
      have key : ((s[0].toNat : Int) == 48) = false ∨ (((s[0].toNat : Int) == 48) = true ∧ ¬ 1 < s.size) := by
        by_cases e : (s[0].toNat : Int) = 48
        · right
          exact ⟨by rw [beq_iff_eq]; exact e, fun h => hz ⟨e, h⟩⟩
        · left
          rw [beq_eq_false_iff_ne]
          exact e
      clear hI hz
      rcases key with e1 | ⟨e1, e2⟩
      all_goals
        go_enter Tryd.func32, Tryd.ntmps32
        go_wp2
        go_loop [4] (fun i => ∃ k : Nat, k ≤ s.size ∧ i = .int .i64 k ∧ (s.data.toList.take k).all isDig = true) (fun i => s.size - (intOf i).toNat)
        case atStart => exact ⟨0, Nat.zero_le _, rfl, rfl⟩
        case round =>
          obtain ⟨k, hk, rfl, hall⟩ := hrel
          have HA := Lib.hid hall
          clear hall
          by_cases hlt : k < s.size
          · by_cases h0 : (s[k].toNat : Int) < 48
            · have HF := Lib.hid (readV_form (HI.out.trans (all_not s k hlt (dig_lo h0))))
              go_wp2
              go_ret2
              exact two_read _ HF.out
            · by_cases h1 : 57 < (s[k].toNat : Int)
              · have HF := Lib.hid (readV_form (HI.out.trans (all_not s k hlt (dig_hi h1))))
                go_wp2
                go_ret2
                exact two_read _ HF.out
              · have HN := Lib.hid (all_step s k hlt HA.out (dig_yes h0 h1))
                go_wp2
                go_round
                case rel => exact ⟨k + 1, by omega, by go_num, HN.out⟩
                case measure => simp [intOf]; omega
          · obtain rfl : k = s.size := by omega
            rw [take_end] at HA
            have HN := Lib.hid (HI.out.trans HA.out)
            have HD := Lib.hid (fun k (h : k < s.size) => dig_at s k h HA.out)
            go_wp2
            go_loop [5, 6] (fun m i => ∃ (k : Nat) (n : Int), k ≤ s.size ∧ i = .int .i64 k ∧ m = .int .i64 n ∧ 0 ≤ n ∧ n ≤ 4611686018427387903 ∧ readGo 0 s.data.toList = readGo n (s.data.toList.drop k)) (fun _ i => s.size - (intOf i).toNat)
            case atStart => exact ⟨0, 0, Nat.zero_le _, rfl, rfl, Int.le_refl _, by omega, rfl⟩
            case round =>
              obtain ⟨k, n, hk, rfl, rfl, hn0, hn1, hrel⟩ := hrel
              have HR := Lib.hid hrel
              clear hrel
              by_cases hlt : k < s.size
              · obtain ⟨hc0, hc1⟩ := HD.out k hlt
                by_cases hbig : (4611686018427387903 - ((s[k].toNat : Int) - 48)) / 10 < n
                · have HF := Lib.hid (readV_big HN.out (HR.out.trans (readGo_no n s k hlt hbig)))
                  go_wp2
                  go_ret2
                  exact two_read _ HF.out
                · have HF := Lib.hid (HR.out.trans (readGo_yes n s k hlt hbig))
                  go_wp2
                  go_round
                  case rel => exact ⟨k + 1, 10 * n + ((s[k].toNat : Int) - 48), by omega, by go_num, by go_num, by omega, by omega, HF.out⟩
                  case measure => simp [intOf]; omega
              · obtain rfl : k = s.size := by omega
                have HF := Lib.hid (readV_num HN.out (HR.out.trans (by rw [drop_end]; rfl)))
                go_wp2
                go_ret2
                exact two_read _ HF.out
  · have HF := Lib.hid (readV_form (isNum_none s h0))
    have e0 : ((s.size : Int) == 0) = true := by rw [beq_iff_eq]; omega
    go_enter Tryd.func32, Tryd.ntmps32
    go_wp2
    go_ret2
    exact two_read _ HF.out
end Go.Proofs.YtigbapkdpaahjaaDoor
