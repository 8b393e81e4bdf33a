/-
  The law StoreFull: sizes for which there is no store, or that are too great; the law as one.
-/
import Derived.Test.YtbmkjlpjgkfjcaaGreatDoorZLawFm
namespace Go.Proofs.YtbmkjlpjgkfjcaaGreatDoor
open Go.RowKit
set_option maxHeartbeats 1000000 in
theorem zs_New_nil (words : Int) (h : words < 2 ∨ 65536 < words) (w : World) : Calls Tryz.prog 7 #[.int .i64 words] w fun e w' => e = .returned (.pointer none) ∧ w = w' := by
  go_enter Tryz.func7, Tryz.ntmps7
  go_wp2_with fail
  refine (ref_New_nil words _ h).mono ?_
  rintro e w' ⟨rfl, rfl⟩
  go_wp2_with fail
  go_ret
  exact ⟨rfl, rfl⟩
set_option maxHeartbeats 1000000 in
set_option maxRecDepth 100000 in
theorem full_nil (words : Int) (A : Option Addr) (n c : Nat) (sz : Int) (w : World) (hT : Tab w) (h : words < 2 ∨ 65536 < words) :
    Calls Tryz.prog 4 #[.int .i64 words, .slice A n c, .int .i64 sz] w (YesMade true w) := by
  have HT := Lib.hid hT
  clear hT
  go_enter Tryz.func4, Tryz.ntmps4
  go_wp2_with fail
  refine (awake4_any _ HT.out).mono ?_
  rintro e w1 ⟨rfl, hb⟩
  have HB := Lib.hid hb
  clear hb
  go_wp2_with fail
  refine (st_New_nil words _ h).mono ?_
  rintro e w' ⟨rfl, rfl⟩
  go_wp2_with fail
  refine (zs_New_nil words h _).mono ?_
  rintro e w' ⟨rfl, rfl⟩
  go_wp2_with fail
  go_ret
  exact ⟨rfl, HB.out⟩
set_option maxHeartbeats 1000000 in
set_option maxRecDepth 100000 in
theorem full_great (m : Nat) (A : Option Addr) (n c : Nat) (sz : Int) (w : World) (hT : Tab w) (h : 2 ≤ m ∧ m ≤ 65536) (h2 : 2048 < m ∨ (m ≤ 2048 ∧ sz < 0) ∨ (m ≤ 2048 ∧ 0 ≤ sz ∧ 4096 < sz)) :
    Calls Tryz.prog 4 #[.int .i64 (m : Int), .slice A n c, .int .i64 sz] w (YesMade true w) := by
  have HT := Lib.hid hT
  clear hT
  have hnew : ∀ w1, Calls Tryz.prog 6 #[.int .i64 (m : Int)] w1 (SNew m w1) := fun w1 => st_New m (by omega) (by omega) w1
  have HNW := Lib.hid hnew
  clear hnew
  rcases h2 with h2 | ⟨h2, h3⟩ | ⟨h2, h3, h4⟩
  · have g1 : decide (2048 < (m : Int)) = true := decide_eq_true (by omega)
    go_enter Tryz.func4, Tryz.ntmps4
    go_wp2_with fail
    refine (awake4_any _ HT.out).mono ?_
    rintro e w1 ⟨rfl, hb⟩
    have HB := Lib.hid hb
    clear hb
    go_wp2_with fail
    refine (HNW.out w1).mono ?_
    rintro e w2 ⟨p, g, q, rfl, hx, hb2, hy⟩
    have HB2 := Lib.hid (HB.out.trans (hb2.mono HB.out.size))
    clear hb2 HNW HB hx hy
    go_wp2_with fail
    refine (zs_New m h w2).mono ?_
    rintro e w3 ⟨pr, k, r, rfl, hx, hb3⟩
    have HB3 := Lib.hid (HB2.out.trans (hb3.mono HB2.out.size))
    clear hb3 hx
    go_wp2_with fail
    go_ret
    exact ⟨rfl, HB3.out⟩
  · have g1 : decide (2048 < (m : Int)) = false := decide_eq_false (by omega)
    have g2 : decide (sz < 0) = true := decide_eq_true h3
    go_enter Tryz.func4, Tryz.ntmps4
    go_wp2_with fail
    refine (awake4_any _ HT.out).mono ?_
    rintro e w1 ⟨rfl, hb⟩
    have HB := Lib.hid hb
    clear hb
    go_wp2_with fail
    refine (HNW.out w1).mono ?_
    rintro e w2 ⟨p, g, q, rfl, hx, hb2, hy⟩
    have HB2 := Lib.hid (HB.out.trans (hb2.mono HB.out.size))
    clear hb2 HNW HB hx hy
    go_wp2_with fail
    refine (zs_New m h w2).mono ?_
    rintro e w3 ⟨pr, k, r, rfl, hx, hb3⟩
    have HB3 := Lib.hid (HB2.out.trans (hb3.mono HB2.out.size))
    clear hb3 hx
    go_wp2_with fail
    go_ret
    exact ⟨rfl, HB3.out⟩
  · have g1 : decide (2048 < (m : Int)) = false := decide_eq_false (by omega)
    have g2 : decide (sz < 0) = false := decide_eq_false (by omega)
    have g3 : decide (4096 < sz) = true := decide_eq_true h4
    go_enter Tryz.func4, Tryz.ntmps4
    go_wp2_with fail
    refine (awake4_any _ HT.out).mono ?_
    rintro e w1 ⟨rfl, hb⟩
    have HB := Lib.hid hb
    clear hb
    go_wp2_with fail
    refine (HNW.out w1).mono ?_
    rintro e w2 ⟨p, g, q, rfl, hx, hb2, hy⟩
    have HB2 := Lib.hid (HB.out.trans (hb2.mono HB.out.size))
    clear hb2 HNW HB hx hy
    go_wp2_with fail
    refine (zs_New m h w2).mono ?_
    rintro e w3 ⟨pr, k, r, rfl, hx, hb3⟩
    have HB3 := Lib.hid (HB2.out.trans (hb3.mono HB2.out.size))
    clear hb3 hx
    go_wp2_with fail
    go_ret
    exact ⟨rfl, HB3.out⟩
theorem law_Full (words : Int) (A : Option Addr) (n c : Nat) (sz : Int) (w : World) (hT : Tab w) (_hw : -9223372036854775808 ≤ words ∧ words ≤ 9223372036854775807) (hS : Script4 w (fun b => b < w.heap.size) A n) (hn : n ≤ 9223372036854775807) (_hz : -9223372036854775808 ≤ sz ∧ sz ≤ 9223372036854775807) :
    Calls Tryz.prog 4 #[.int .i64 words, .slice A n c, .int .i64 sz] w (YesMade true w) := by
  by_cases h1 : words < 2 ∨ 65536 < words
  · exact full_nil words A n c sz w hT h1
  · have hwn : (words.toNat : Int) = words := Int.toNat_of_nonneg (by omega)
    by_cases h2 : 2048 < words ∨ sz < 0 ∨ 4096 < sz
    · have h3 := full_great words.toNat A n c sz w hT (by omega) (by omega)
      rw [hwn] at h3
      exact h3
    · have hsn : (sz.toNat : Int) = sz := Int.toNat_of_nonneg (by omega)
      have h3 := full_walk words.toNat A n c sz.toNat w hT (by omega) (by omega) hS hn
      rw [hwn, hsn] at h3
      exact h3
end Go.Proofs.YtbmkjlpjgkfjcaaGreatDoor
