/-
  The law StoreDoes: sizes for which there is no store, or that are too great; the law as one.
-/
import Derived.Test.YtdkbgdjkdalalaaGreatDoorZDoLm
namespace Go.Proofs.YtdkbgdjkdalalaaGreatDoor
open Go.RowKit
set_option maxHeartbeats 1000000 in
theorem zd_New_nil (words : Int) (h : words < 2 ∨ 65536 < words) (w : World) : Calls Tryz.prog 7 #[.int .i64 words] w fun e w' => e = .returned (.pointer none) ∧ w = w' := by
  go_enter Tryz.func7, Tryz.ntmps7
  go_wp2_with fail
  refine (ref_New_nil words _ h).mono ?_
  rintro e w' ⟨rfl, rfl⟩
  go_wp2_with fail
  go_ret
  exact ⟨rfl, rfl⟩
set_option maxHeartbeats 1000000 in
set_option maxRecDepth 100000 in
theorem does_nil (words : Int) (A : Option Addr) (n c : Nat) (w : World) (hT : Tab w) (h : words < 2) :
    Calls Tryz.prog 3 #[.int .i64 words, .slice A n c] w (YesMade true w) := by
  have HT := Lib.hid hT
  have g1 : decide (2048 < words) = false := decide_eq_false (by omega)
  clear hT
  go_enter Tryz.func3, Tryz.ntmps3
  go_wp2_with fail
  refine (awake4_any _ HT.out).mono ?_
  rintro e w1 ⟨rfl, hb⟩
  have HB := Lib.hid hb
  clear hb
  go_wp2_with fail
  refine (st_New_nil words _ (.inl h)).mono ?_
  rintro e w' ⟨rfl, rfl⟩
  go_wp2_with fail
  refine (zd_New_nil words (.inl h) _).mono ?_
  rintro e w' ⟨rfl, rfl⟩
  go_wp2_with fail
  go_ret
  exact ⟨rfl, HB.out⟩
set_option maxHeartbeats 1000000 in
set_option maxRecDepth 100000 in
theorem does_great (words : Int) (A : Option Addr) (n c : Nat) (w : World) (hT : Tab w) (h : 2048 < words) :
    Calls Tryz.prog 3 #[.int .i64 words, .slice A n c] w (YesMade true w) := by
  have HT := Lib.hid hT
  have g1 : decide (2048 < words) = true := decide_eq_true h
  clear hT
  go_enter Tryz.func3, Tryz.ntmps3
  go_wp2_with fail
  refine (awake4_any _ HT.out).mono ?_
  rintro e w1 ⟨rfl, hb⟩
  have HB := Lib.hid hb
  clear hb
  go_wp2_with fail
  go_ret
  exact ⟨rfl, HB.out⟩
theorem law_StoreDoes (words : Int) (A : Option Addr) (n c : Nat) (w : World) (hT : Tab w) (_hw : -9223372036854775808 ≤ words ∧ words ≤ 9223372036854775807) (hS : Script4 w (fun b => b < w.heap.size) A n) (hn : n ≤ 9223372036854775807) :
    Calls Tryz.prog 3 #[.int .i64 words, .slice A n c] w (YesMade true w) := by
  by_cases h1 : words < 2
  · exact does_nil words A n c w hT h1
  · by_cases h2 : 2048 < words
    · exact does_great words A n c w hT h2
    · have hwn : (words.toNat : Int) = words := Int.toNat_of_nonneg (by omega)
      have h3 := does_walk words.toNat A n c w hT (by omega) hS hn
      rw [hwn] at h3
      exact h3
end Go.Proofs.YtdkbgdjkdalalaaGreatDoor
