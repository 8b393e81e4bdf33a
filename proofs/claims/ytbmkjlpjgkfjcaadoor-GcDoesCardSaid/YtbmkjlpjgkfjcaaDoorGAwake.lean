/-
  The walk of the laws' own first look at the collector.
-/
import Derived.Test.YtbmkjlpjgkfjcaaDoorGLaw
namespace Go.Proofs.YtbmkjlpjgkfjcaaDoor
open Go.RowKit
def wkL : List Ob := [⟨1, 5, [6]⟩, ⟨3, 5, [1]⟩, ⟨5, 5, [1]⟩]
def wkL3 : List Ob := [⟨1, 5, [1]⟩, ⟨3, 5, [1]⟩, ⟨5, 5, [1]⟩]
def wkL4 : List Ob := [⟨1, 5, [1]⟩, ⟨3, 5, [1]⟩, ⟨5, 5, [1]⟩, ⟨7, 5, [1]⟩]
def wkL5 : List Ob := [⟨1, 5, [1]⟩, ⟨3, 5, [1]⟩, ⟨7, 5, [1]⟩]
def wkAt : Nat → List Ob
  | 0 => []
  | 1 => [⟨1, 5, [1]⟩]
  | 2 => [⟨1, 5, [1]⟩, ⟨3, 5, [1]⟩]
  | _ => wkL3
def wk0 : GS := ⟨wkL, 0, [], [], 0⟩
def wk1 : GS := ⟨wkL, 1, [1], [], 0⟩
def wk2 : GS := ⟨wkL, 1, [3], [1], 0⟩
def wk3 : GS := ⟨wkL3, 1, [3], [1], 0⟩
def wk4 : GS := ⟨wkL4, 1, [3], [1, 7], 0⟩
def wk5 : GS := ⟨wkL5, 0, [], [], 8⟩
theorem wk_set : hSet wkL3 1 0 6 = (0, wkL) := by kernel_rfl
theorem wk_begin : wk0.begin [2] = (0, wk1) := by kernel_rfl
theorem wk_busy : wk1.begin [] = (9, wk1) := by kernel_rfl
theorem wk_step : wk1.step = (false, wk2) := by kernel_rfl
theorem wk_write : wk2.write 1 0 1 = (0, wk3) := by kernel_rfl
theorem wk_alloc : wk3.alloc 20 5 1 = (7, 0, wk4) := by kernel_rfl
theorem wk_white1 : decide ((0 : Int) ≤ 3 ∧ wk1.White (3 : Int).toNat) = true := by kernel_rfl
theorem wk_white2 : decide ((0 : Int) ≤ 3 ∧ wk2.White (3 : Int).toNat) = false := by kernel_rfl
theorem wk_white5 : decide ((0 : Int) ≤ 7 ∧ wk5.White (7 : Int).toNat) = true := by kernel_rfl
theorem wk_run : wk4.run 7 = wk5 := by kernel_rfl
theorem wk_phs : [0, 1, 2, 3, 4, 5, 6].map (fun j => (wk4.run j).ph) = [1, 1, 2, 2, 2, 2, 2] := by kernel_rfl
theorem wk_ends : EndsAt wk4 7 := by
  refine ⟨by rw [wk_run]; rfl, fun j hj => ?_⟩
  have h := wk_phs
  simp only [List.map_cons, List.map_nil, List.cons.injEq, and_true] at h
  have : j = 0 ∨ j = 1 ∨ j = 2 ∨ j = 3 ∨ j = 4 ∨ j = 5 ∨ j = 6 := by omega
  rcases this with rfl | rfl | rfl | rfl | rfl | rfl | rfl <;> omega
theorem wk_next : nextOb wkL5 (4 : Int).toNat = 7 := by kernel_rfl
set_option maxHeartbeats 4000000 in
set_option maxRecDepth 100000 in
theorem awake3_any (w : World) (hT : Tab w) : Calls Tryd.prog 24 #[] w (YesMade true w) := by
  have HT := Lib.hid hT
  clear hT
  go_enter Tryd.func24, Tryd.ntmps24
  go_wp2_with fail
  refine (g_NewI 20 (by decide) (by decide) _).mono ?_
  rw [show (20 : Int).toNat = 20 from rfl]
  rintro e w1 ⟨q, rfl, h1, hb1⟩
  have H : Hid (HAt w1 q (From w.heap.size) 20 (wkAt 0) ∧ Below w.heap.size w w1) := Lib.hid ⟨h1, hb1⟩
  clear h1 hb1
  go_wp2_with fail
  go_loopw [2] (fun vi wr => ∃ i : Nat, i ≤ 3 ∧ vi = .int .i64 i ∧ Hid (HAt wr q (From w.heap.size) 20 (wkAt i) ∧ Below w.heap.size w wr)) (fun vi _ => 3 - (intOf vi).toNat)
  case atStart => exact ⟨0, by omega, by go_num, H⟩
  case round =>
    obtain ⟨i, hi, rfl, HI⟩ := hrel
    clear H
    by_cases hil : i < 3
    · have g2 : decide ((i : Int) < 3) = true := by rw [decide_eq_true_iff]; omega
      have HA : Hid (∃ a : Int, Calls Tryd.prog 18 #[.pointer (some ⟨q, 0, none⟩), .int .i64 5, .int .i64 1] wr (BAlloc q w.heap.size 20 a 0 (wkAt (i + 1)) wr)) := Lib.hid (by
        have : i = 0 ∨ i = 1 ∨ i = 2 := by omega
        rcases this with rfl | rfl | rfl
        · exact ⟨1, b_Alloc q w.heap.size 20 _ _ HI.out.1 HI.out.2.size 5 1 _ _ _ (by kernel_rfl)⟩
        · exact ⟨3, b_Alloc q w.heap.size 20 _ _ HI.out.1 HI.out.2.size 5 1 _ _ _ (by kernel_rfl)⟩
        · exact ⟨5, b_Alloc q w.heap.size 20 _ _ HI.out.1 HI.out.2.size 5 1 _ _ _ (by kernel_rfl)⟩)
      obtain ⟨a, ha⟩ := HA.out
      have HA2 := Lib.hid ha
      clear ha HA
      go_wp2_with fail
      refine HA2.out.mono ?_
      rintro e w2 ⟨rfl, h2, hb2⟩
      have H2 : Hid (HAt w2 q (From w.heap.size) 20 (wkAt (i + 1)) ∧ Below w.heap.size w w2) := Lib.hid ⟨h2, HI.out.2.trans hb2⟩
      clear h2 hb2
      go_wp2_with fail
      go_roundw
      case rel => exact ⟨i + 1, by omega, by go_num, H2⟩
      case measure => simp [intOf]; omega
    · have g2 : decide ((i : Int) < 3) = false := by rw [decide_eq_false_iff_not]; omega
      obtain rfl : i = 3 := by omega
      clear hi hil
      go_wp2_with fail
      refine (ref_any 3 (by decide) _).mono ?_
      rintro e w' ⟨rfl, rfl⟩
      go_wp2_with fail
      refine (b_Set q w.heap.size 20 _ _ HI.out.1 HI.out.2.size 1 0 6 (by decide) (by decide) _ _ wk_set).mono ?_
      rintro e w3 ⟨rfl, h3, hb3⟩
      have H3 := Lib.hid h3
      have HB3 : Hid (Below w.heap.size w w3) := Lib.hid (HI.out.2.trans hb3)
      clear h3 hb3 HI
      go_wp2_with fail
      refine (v_New (fun b => b < w.heap.size) q 20 (From w.heap.size) wkL w3 H3.out (by decide) (fun b hb hf => by unfold From at hb; omega) (fun b hf => Nat.lt_of_lt_of_le hf HB3.out.size)).mono ?_
      rintro e w4 ⟨g, rfl, h4, hb4⟩
      have H4 : Hid (GIn (fun b => b < w.heap.size) w4 g q 20 wk0) := Lib.hid h4
      have HB4 : Hid (Below w.heap.size w w4) := Lib.hid (HB3.out.trans (hb4.mono HB3.out.size))
      clear h4 hb4 H3 HB3
      go_wp2_with fail
      refine (ref_any 1 (by decide) _).mono ?_
      rintro e w' ⟨rfl, rfl⟩
      go_wp2_with fail
      have HIA : Hid (GIn (fun b => b < w.heap.size ∨ b = w4.heap.size) (w4.alloc (.cells #[.int .u64 2] 30)) g q 20 wk0) := Lib.hid (H4.out.more ((Below.refl _ _).alloc (Nat.le_refl _) _) (fun b hb => hb.imp id fun he => ⟨by omega, by simp; omega⟩))
      have hbg := v_Begin _ g q 20 wk0 _ HIA.out (some ⟨w4.heap.size, 0, none⟩) 1 1 [2] ⟨rfl, by decide, fun i hi => ⟨w4.heap.size, 0, rfl, by simp, .inr rfl, by
        obtain rfl : i = 0 := by omega
        rw [Lib.cell_of_heap (heap_alloc_new w4 _)]; rfl⟩⟩ (by decide)
      rw [wk_begin] at hbg
      refine hbg.mono ?_
      clear hbg
      rintro e w5 ⟨rfl, h5⟩
      have H5 : Hid (GIn (fun b => b < w.heap.size) w5 g q 20 wk1) := Lib.hid (h5.1.less fun b hb => .inl hb)
      have HB5 : Hid (Below w.heap.size w w5) := Lib.hid ((HB4.out.alloc HB4.out.size _).trans (h5.2.below (fun b hb => .inl hb) (by have := HB4.out.size; simp; omega)))
      clear h5 HIA H4 HB4
      go_wp2_with fail
      have hbg := v_Begin _ g q 20 wk1 _ H5.out none 0 0 [] ⟨rfl, (fun x hx => by cases hx), fun i hi => by omega⟩ (by decide)
      rw [wk_busy] at hbg
      refine hbg.mono ?_
      clear hbg
      rintro e w6 ⟨rfl, h6⟩
      have H6 : Hid (GIn (fun b => b < w.heap.size) w6 g q 20 wk1) := Lib.hid h6.1
      have HB6 : Hid (Below w.heap.size w w6) := Lib.hid (HB5.out.trans (h6.2.below (fun b hb => hb) HB5.out.size))
      clear h6 H5 HB5
      go_wp2_with fail
      have hg := v_Grey _ g q 20 wk1 _ H6.out
      refine hg.mono ?_
      clear hg
      rintro e w' ⟨rfl, rfl⟩
      have hg := v_White _ g q 20 wk1 _ H6.out 3
      rw [wk_white1] at hg
      go_wp2_with fail
      refine hg.mono ?_
      clear hg
      rintro e w' ⟨rfl, rfl⟩
      have hg := v_Step _ g q 20 wk1 _ H6.out (HT.out.below HB6.out HT.out.lt)
      rw [wk_step] at hg
      go_wp2_with fail
      refine hg.mono ?_
      clear hg
      rintro e w7 ⟨rfl, h7⟩
      have H7 : Hid (GIn (fun b => b < w.heap.size) w7 g q 20 wk2) := Lib.hid h7.1
      have HB7 : Hid (Below w.heap.size w w7) := Lib.hid (HB6.out.trans (h7.2.below (fun b hb => hb) HB6.out.size))
      clear h7 H6 HB6
      have hg := v_White _ g q 20 wk2 _ H7.out 3
      rw [wk_white2] at hg
      go_wp2_with fail
      refine hg.mono ?_
      clear hg
      rintro e w' ⟨rfl, rfl⟩
      go_wp2_with fail
      refine (word_Of0 _).mono ?_
      rintro e w' ⟨rfl, rfl⟩
      have hg := v_Write _ g q 20 wk2 _ H7.out 1 0 1 (by decide)
      rw [wk_write] at hg
      go_wp2_with fail
      refine hg.mono ?_
      clear hg
      rintro e w8 ⟨rfl, h8⟩
      have H8 : Hid (GIn (fun b => b < w.heap.size) w8 g q 20 wk3) := Lib.hid h8.1
      have HB8 : Hid (Below w.heap.size w w8) := Lib.hid (HB7.out.trans (h8.2.below (fun b hb => hb) HB7.out.size))
      clear h8 H7 HB7
      have hg := v_Alloc _ g q 20 wk3 _ H8.out 5 1
      rw [wk_alloc] at hg
      go_wp2_with fail
      refine hg.mono ?_
      clear hg
      rintro e w9 ⟨rfl, h9⟩
      have H9 : Hid (GIn (fun b => b < w.heap.size) w9 g q 20 wk4) := Lib.hid h9.1
      have HB9 : Hid (Below w.heap.size w w9) := Lib.hid (HB8.out.trans (h9.2.below (fun b hb => hb) HB8.out.size))
      clear h9 H8 HB8
      have hg : Calls Tryd.prog 40 #[.pointer (some ⟨g, 0, none⟩)] w9 (OneSame 1 w9) := v_Phase _ g q 20 wk4 _ H9.out
      go_wp2_with fail
      refine hg.mono ?_
      clear hg
      rintro e w' ⟨rfl, rfl⟩
      have hg := v_Finish _ g q 20 wk4 _ H9.out (HT.out.below HB9.out HT.out.lt) HT.out.lt
      go_wp2_with fail
      refine hg.mono ?_
      clear hg
      rintro e w10 ⟨K, rfl, hK, h10⟩
      obtain rfl := ends_unique hK wk_ends
      rw [wk_run] at h10
      have H10 : Hid (GIn (fun b => b < w.heap.size) w10 g q 20 wk5) := Lib.hid h10.1
      have HB10 : Hid (Below w.heap.size w w10) := Lib.hid (HB9.out.trans (h10.2.below (fun b hb => hb) HB9.out.size))
      clear h10 H9 HB9 hK
      have hg : Calls Tryd.prog 40 #[.pointer (some ⟨g, 0, none⟩)] w10 (OneSame 0 w10) := v_Phase _ g q 20 wk5 _ H10.out
      go_wp2_with fail
      refine hg.mono ?_
      clear hg
      rintro e w' ⟨rfl, rfl⟩
      have hg : Calls Tryd.prog 20 #[.pointer (some ⟨q, 0, none⟩), .int .i64 4] w10 (OneSame 7 w10) := v_Next _ g q 20 wk5 _ H10.out 4 (HT.out.below HB10.out HT.out.lt) (by decide)
      go_wp2_with fail
      refine hg.mono ?_
      clear hg
      rintro e w' ⟨rfl, rfl⟩
      have hg := v_White _ g q 20 wk5 _ H10.out 7
      rw [wk_white5] at hg
      go_wp2_with fail
      refine hg.mono ?_
      clear hg
      rintro e w' ⟨rfl, rfl⟩
      go_wp2_with fail
      go_ret
      exact ⟨rfl, HB10.out⟩
end Go.Proofs.YtbmkjlpjgkfjcaaDoor
