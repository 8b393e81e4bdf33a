/-
  The walk of the law LexNames: whatever the input, it returns true and leaves what was there as it was. Condition: the variable of the signs holds what its initialiser lays.
-/
import Derived.Test.YtecpldnjpapalaaDoorLRef
namespace Go.Proofs.YtecpldnjpapalaaDoor
open Go.RowKit
theorem nam_same (l : List UInt8) : isNam l = isNamR l := rfl
set_option maxRecDepth 100000 in
set_option maxHeartbeats 2000000 in
theorem law_Names (s : ByteArray) (w : World) (hy : Syms w) (_hs : s.size ≤ 140737488355328) : Calls Tryd.prog 3 #[.string s] w (YesMade true w) := by
  have HY := Lib.hid hy
  clear hy
  have hl : s.data.toList.length = s.size := rfl
  by_cases hbig : 4096 < s.size
  · have g1 : decide (4096 < (s.size : Int)) = true := decide_eq_true (by omega)
    have g2 : decide (4096 < s.size) = true := decide_eq_true hbig
    clear hl
    go_enter Tryd.func3, Tryd.ntmps3
    go_wp2_with fail
    refine (awake5_any _ HY.out).mono ?_
    rintro e w1 ⟨rfl, hb1⟩
    have HB1 := Lib.hid hb1
    clear hb1
    go_wp2_with fail
    go_ret
    exact ⟨rfl, HB1.out⟩
  · have g1 : decide (4096 < (s.size : Int)) = false := decide_eq_false (by omega)
    have g2 : decide (4096 < s.size) = false := decide_eq_false hbig
    have HN := Lib.hid (nam_same s.data.toList)
    have HA := Lib.hid (fun W => lex_IsWord s W)
    have HB := Lib.hid (fun W => ref_IsWord s W)
    have HC := Lib.hid (fun W => lex_IsName s W)
    have HD := Lib.hid (fun W => ref_IsName s W (by omega))
    rw [HN.out] at HC
    generalize isKey s.data.toList = kb at *
    generalize isNamR s.data.toList = nb at *
    have B1 : (kb == kb) = true := by simp
    have B2 : (nb == nb) = true := by simp
    clear hl HN
    go_enter Tryd.func3, Tryd.ntmps3
    go_wp2_with fail
    refine (awake5_any _ HY.out).mono ?_
    rintro e w1 ⟨rfl, hb1⟩
    have HB1 := Lib.hid hb1
    clear hb1
    go_wp2_with fail
    refine (HA.out _).mono ?_
    rintro e w' ⟨rfl, rfl⟩
    go_wp2_with fail
    refine (HB.out _).mono ?_
    rintro e w2 ⟨rfl, hb2⟩
    have HB2 := Lib.hid (HB1.out.trans (hb2.mono HB1.out.size))
    clear hb2 HB1
    go_wp2_with fail
    refine (HC.out _).mono ?_
    rintro e w3 ⟨rfl, hb3⟩
    have HB3 := Lib.hid (HB2.out.trans (hb3.mono HB2.out.size))
    clear hb3 HB2
    go_wp2_with fail
    refine (HD.out _).mono ?_
    rintro e w4 ⟨rfl, hb4⟩
    have HB4 := Lib.hid (HB3.out.trans (hb4.mono HB3.out.size))
    clear hb4 HB3
    go_wp2_with fail
    go_ret
    exact ⟨rfl, HB4.out⟩
end Go.Proofs.YtecpldnjpapalaaDoor
