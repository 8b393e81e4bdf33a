/-
  The law StoreSame: sizes for which there is no store, or that are too great; the law as one.
-/
import Derived.Test.YtbmkjlpjgkfjcaaDoorSLawGm
namespace Go.Proofs.YtbmkjlpjgkfjcaaDoor
open Go.RowKit
set_option maxHeartbeats 1000000 in
set_option maxRecDepth 100000 in
theorem same_nil (words : Int) (A : Option Addr) (n c : Nat) (w : World) (hT : Tab w) (h : words < 2 ∨ 65536 < words) :
    Calls Tryd.prog 10 #[.int .i64 words, .slice A n c] w (YesMade true w) := by
  have HT := Lib.hid hT
  clear hT
  go_enter Tryd.func10, Tryd.ntmps10
  go_wp2_with fail
  refine (awake4_any _ HT.out).mono ?_
  rintro e w1 ⟨rfl, hb⟩
  have HB := Lib.hid hb
  clear hb
  go_wp2_with fail
  refine (st_New_nil words _ h).mono ?_
  rintro e w' ⟨rfl, rfl⟩
  go_wp2_with fail
  go_ret
  exact ⟨rfl, HB.out⟩
set_option maxHeartbeats 1000000 in
set_option maxRecDepth 100000 in
theorem same_great (m : Nat) (A : Option Addr) (n c : Nat) (w : World) (hT : Tab w) (h : 2048 < m ∧ m ≤ 65536) :
    Calls Tryd.prog 10 #[.int .i64 (m : Int), .slice A n c] w (YesMade true w) := by
  have HT := Lib.hid hT
  have g1 : decide (2048 < (m : Int)) = true := decide_eq_true (by omega)
  clear hT
  go_enter Tryd.func10, Tryd.ntmps10
  go_wp2_with fail
  refine (awake4_any _ HT.out).mono ?_
  rintro e w1 ⟨rfl, hb⟩
  have HB := Lib.hid hb
  clear hb
  have hnew : Calls Tryd.prog 52 #[.int .i64 (m : Int)] w1 (SNew m w1) := st_New m (by omega) (by omega) w1
  have HNW := Lib.hid hnew
  clear hnew
  go_wp2_with fail
  refine HNW.out.mono ?_
  rintro e w2 ⟨p, g, q, rfl, _, hb2, _⟩
  have HB2 := Lib.hid (HB.out.trans (hb2.mono HB.out.size))
  clear hb2 HNW HB
  go_wp2_with fail
  go_ret
  exact ⟨rfl, HB2.out⟩
theorem law_Same (words : Int) (A : Option Addr) (n c : Nat) (w : World) (hT : Tab w) (_hw : -9223372036854775808 ≤ words ∧ words ≤ 9223372036854775807) (hS : Script4 w (fun b => b < w.heap.size) A n) (hn : n ≤ 9223372036854775807) :
    Calls Tryd.prog 10 #[.int .i64 words, .slice A n c] w (YesMade true w) := by
  by_cases h1 : words < 2 ∨ 65536 < words
  · exact same_nil words A n c w hT h1
  · have hwn : (words.toNat : Int) = words := Int.toNat_of_nonneg (by omega)
    by_cases h2 : 2048 < words
    · have h3 := same_great words.toNat A n c w hT (by omega)
      rw [hwn] at h3
      exact h3
    · have h3 := same_walk words.toNat A n c w hT (by omega) hS hn
      rw [hwn] at h3
      exact h3
end Go.Proofs.YtbmkjlpjgkfjcaaDoor
