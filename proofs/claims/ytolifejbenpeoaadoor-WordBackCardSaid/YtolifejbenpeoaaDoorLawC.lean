/-
  The walk of the law WordBack: whatever the input, it returns true and leaves what was there as it was. Condition: strconv's table of powers of ten holds what its initialiser lays.
-/
import Derived.Test.YtolifejbenpeoaaDoorAwake
import Derived.Test.YtolifejbenpeoaaDoorBack
namespace Go.Proofs.YtolifejbenpeoaaDoor
open Go.RowKit
theorem bk_unq (s : ByteArray) (w : World) (hs : s.size ≤ 65536) : Calls Tryd.prog 29 #[.string ⟨(qall s.data.toList).toArray⟩] w (Pair (.string s) (.int .i64 0) w) := by
  have hl : (⟨(qall s.data.toList).toArray⟩ : ByteArray).size ≤ 1099511627776 := by
    have h1 := qbody_length s.data.toList
    have h2 : s.data.toList.length = s.size := rfl
    have h3 : (⟨(qall s.data.toList).toArray⟩ : ByteArray).size = (qall s.data.toList).length := rfl
    have h4 : (qall s.data.toList).length = (qbody s.data.toList).length + 2 := by simp [qall]
    omega
  refine (word_Unquote ⟨(qall s.data.toList).toArray⟩ w hl).mono ?_
  have h : UnqV (⟨(qall s.data.toList).toArray⟩ : ByteArray).data.toList = (s.data.toList, 0) := unqV_back _
  rw [h]
  rintro e w' ⟨rfl, hb⟩
  refine ⟨?_, hb⟩
  rw [bytes_back]
theorem bk_num (n : Int) (w : World) : Calls Tryd.prog 15 #[.int .u64 (WOf (W63 n))] w fun e w' => e = .returned (.int .i64 (W63 n)) ∧ w = w' := by
  refine (word_Num _ w (wof_lo _) (wof_hi _)).mono ?_
  rintro e w' ⟨rfl, rfl⟩
  exact ⟨ret_int ((wnum_of _).trans (w63_idem n)), rfl⟩
theorem bk_isof (n : Int) (w : World) : Calls Tryd.prog 17 #[.int .u64 (WOf n)] w fun e w' => e = .returned (.bool true) ∧ w = w' := by
  refine (word_IsNum _ w (wof_lo _) (wof_hi _)).mono ?_
  rintro e w' ⟨rfl, rfl⟩
  exact ⟨ret_bool (wis_of n), rfl⟩
theorem bk_isref (a : Int) (w : World) : Calls Tryd.prog 17 #[.int .u64 (WRef a)] w fun e w' => e = .returned (.bool false) ∧ w = w' := by
  refine (word_IsNum _ w (wref_lo _) (wref_hi _)).mono ?_
  rintro e w' ⟨rfl, rfl⟩
  exact ⟨ret_bool (wis_ref a), rfl⟩
theorem bk_addr (a : Int) (w : World) (h0 : 0 ≤ a) (h1 : a ≤ 2147483647) : Calls Tryd.prog 21 #[.int .u64 (WRef a)] w fun e w' => e = .returned (.int .i64 a) ∧ w = w' := by
  refine (word_Addr _ w (wref_lo _) (wref_hi _)).mono ?_
  rintro e w' ⟨rfl, rfl⟩
  exact ⟨ret_int (waddr_ref a h0 h1), rfl⟩
theorem bk_read (n : Int) (w : World) (h0 : 0 ≤ n) (h1 : n ≤ 4611686018427387903) : Calls Tryd.prog 25 #[.string ⟨(Lib.itoa n).toArray⟩] w fun e w' => e = .returned (.tuple #[.int .i64 n, .int .i64 0]) ∧ w = w' := by
  have hl : (⟨(Lib.itoa n).toArray⟩ : ByteArray).size ≤ maxLen := by
    have h3 : (⟨(Lib.itoa n).toArray⟩ : ByteArray).size = (Lib.itoa n).length := rfl
    have := itoa_short n (by omega) (by omega)
    unfold maxLen
    omega
  refine (word_Read _ w hl).mono ?_
  have h : ReadV (⟨(Lib.itoa n).toArray⟩ : ByteArray).data.toList = (n, 0) := readV_itoa n h0 h1
  rw [h]
  rintro e w' ⟨rfl, rfl⟩
  exact ⟨rfl, rfl⟩
theorem bk_sign (n : Int) (h : n < 0) (w : World) : (Instr.index 9 (.string ⟨(Lib.itoa n).toArray⟩) (.int .i64 0)).run Tryd.prog w = .ok (.int .u8 45) w := by
  obtain ⟨r, hr⟩ := itoa_sign n h
  rw [hr]
  have := index_at ⟨(45 :: r).toArray⟩ 0 (by show 0 < (45 :: r).length; simp) 0 rfl w
  exact this
set_option maxRecDepth 100000 in
set_option maxHeartbeats 2000000 in
theorem law_Back (n a : Int) (s : ByteArray) (w : World) (ht : Tab w) (hs : s.size ≤ maxLen) : Calls Tryd.prog 7 #[.int .i64 n, .int .i64 a, .string s] w (YesMade true w) := by
  have HT := Lib.hid ht
  unfold maxLen at hs
  clear ht
  by_cases hl : 65536 < s.size
  · go_enter Tryd.func7, Tryd.ntmps7
    go_wp2_with fail
    refine (awake_any _ HT.out).mono ?_
    rintro e w1 ⟨rfl, hb⟩
    have H1 := Lib.hid hb
    clear hb
    go_wp2_with fail
    go_ret
    exact ⟨rfl, H1.out⟩
  · have HS := Lib.hid (show s.size ≤ 65536 by omega)
    have hm := mask31 a
    have m0 : 0 ≤ a % 2147483648 := by omega
    have m1 : a % 2147483648 ≤ 2147483647 := by omega
    have n0 := w63_lo n
    have n1 := w63_hi n
    by_cases hneg : W63 n < 0
    · have hix := bk_sign (W63 n) hneg
      go_enter Tryd.func7, Tryd.ntmps7
      go_wp2_with fail
      refine (awake_any _ HT.out).mono ?_
      rintro e w1 ⟨rfl, hb⟩
      have H1 := Lib.hid hb
      clear hb
      go_wp2_with fail
      refine (word_Wrap _ _).mono ?_
      rintro e w' ⟨rfl, rfl⟩
      go_wp2_with fail
      refine (word_Quote _ _ (Nat.le_trans HS.out (by decide))).mono ?_
      rintro e w2 ⟨rfl, hb⟩
      have H2 := Lib.hid (H1.out.trans (hb.mono H1.out.size))
      clear hb
      go_wp2_with fail
      refine (bk_unq s _ HS.out).mono ?_
      rintro e w3 ⟨rfl, hb⟩
      have H3 := Lib.hid (H2.out.trans (hb.mono H2.out.size))
      have T3 := Lib.hid (HT.out.below H3.out)
      clear hb
      go_wp2_with fail
      refine (word_Of _ _).mono ?_
      rintro e w' ⟨rfl, rfl⟩
      go_wp2_with fail
      refine (bk_num _ _).mono ?_
      rintro e w' ⟨rfl, rfl⟩
      go_wp2_with fail
      refine (word_Ref _ _).mono ?_
      rintro e w' ⟨rfl, rfl⟩
      go_wp2_with fail
      refine (bk_addr _ _ m0 m1).mono ?_
      rintro e w' ⟨rfl, rfl⟩
      go_wp2_with fail
      refine (word_Ref _ _).mono ?_
      rintro e w' ⟨rfl, rfl⟩
      go_wp2_with fail
      refine (bk_isref _ _).mono ?_
      rintro e w' ⟨rfl, rfl⟩
      go_wp2_with fail
      refine (word_Of _ _).mono ?_
      rintro e w' ⟨rfl, rfl⟩
      go_wp2_with fail
      refine (bk_isof _ _).mono ?_
      rintro e w' ⟨rfl, rfl⟩
      go_wp2_with fail
      refine (word_Text _ _ (by omega) (by omega) T3.out).mono ?_
      rintro e w4 ⟨rfl, hb⟩
      have H4 := Lib.hid (H3.out.trans (hb.mono H3.out.size))
      clear hb
      go_wp2_with fail
      go_ret
      exact ⟨rfl, H4.out⟩
    · have hnn : 0 ≤ W63 n := by omega
      go_enter Tryd.func7, Tryd.ntmps7
      go_wp2_with fail
      refine (awake_any _ HT.out).mono ?_
      rintro e w1 ⟨rfl, hb⟩
      have H1 := Lib.hid hb
      clear hb
      go_wp2_with fail
      refine (word_Wrap _ _).mono ?_
      rintro e w' ⟨rfl, rfl⟩
      go_wp2_with fail
      refine (word_Quote _ _ (Nat.le_trans HS.out (by decide))).mono ?_
      rintro e w2 ⟨rfl, hb⟩
      have H2 := Lib.hid (H1.out.trans (hb.mono H1.out.size))
      clear hb
      go_wp2_with fail
      refine (bk_unq s _ HS.out).mono ?_
      rintro e w3 ⟨rfl, hb⟩
      have H3 := Lib.hid (H2.out.trans (hb.mono H2.out.size))
      have T3 := Lib.hid (HT.out.below H3.out)
      clear hb
      go_wp2_with fail
      refine (word_Of _ _).mono ?_
      rintro e w' ⟨rfl, rfl⟩
      go_wp2_with fail
      refine (bk_num _ _).mono ?_
      rintro e w' ⟨rfl, rfl⟩
      go_wp2_with fail
      refine (word_Ref _ _).mono ?_
      rintro e w' ⟨rfl, rfl⟩
      go_wp2_with fail
      refine (bk_addr _ _ m0 m1).mono ?_
      rintro e w' ⟨rfl, rfl⟩
      go_wp2_with fail
      refine (word_Ref _ _).mono ?_
      rintro e w' ⟨rfl, rfl⟩
      go_wp2_with fail
      refine (bk_isref _ _).mono ?_
      rintro e w' ⟨rfl, rfl⟩
      go_wp2_with fail
      refine (word_Of _ _).mono ?_
      rintro e w' ⟨rfl, rfl⟩
      go_wp2_with fail
      refine (bk_isof _ _).mono ?_
      rintro e w' ⟨rfl, rfl⟩
      go_wp2_with fail
      refine (word_Text _ _ (by omega) (by omega) T3.out).mono ?_
      rintro e w4 ⟨rfl, hb⟩
      have H4 := Lib.hid (H3.out.trans (hb.mono H3.out.size))
      clear hb
      go_wp2_with fail
      refine (bk_read _ _ hnn n1).mono ?_
      rintro e w' ⟨rfl, rfl⟩
      go_wp2_with fail
      go_ret
      exact ⟨rfl, H4.out⟩
end Go.Proofs.YtolifejbenpeoaaDoor
