/-
  The walk of level 5.
-/
import Derived.Test.YtecpldnjpapalaaDoorGNode
import Derived.Maps.AppendAt
import Derived.Deep.RegionHeld3
import Derived.BigQuiet
import Derived.RegionDies
namespace Go.Proofs.YtecpldnjpapalaaDoor
open Go.RowKit
theorem level_five {rec : Md → List Tok → PR} {T : List Tok} : exec rec (step (.level 5)) T = rec .unary T := by
  simp only [step, if_pos (show 5 ≤ 5 by decide), exec]
  cases rec .unary T <;> rfl
set_option maxRecDepth 100000 in
set_option maxHeartbeats 4000000 in
theorem w_level5 (f p : Nat) (hu : Says f .unary 88 #[ptrV p] p) : Says (f + 1) (.level 5) 82 #[ptrV p, .int .i64 5] p := by
  have HHU := Lib.hid hu
  clear hu
  intro T w hp hne
  have HLT := Lib.hid hp.lt
  have HK := Lib.hid (Keep.start hp)
  have hbx := below_one' (w := w) zeroObj
  have HX : Hid (ZeroBox (w.alloc zeroObj) w.heap.size) := Lib.hid (ZeroBox.new w)
  replace HK := Lib.hid (HK.out.below hbx)
  clear hbx
  have HPB : Hid (p < w.heap.size) := Lib.hid (by have := HLT.out; omega)
  have HB0 : Hid (w.heap.size ≤ w.heap.size) := Lib.hid (by omega)
  have HR : Hid (run (f + 1) (.level 5) T = exec (run f) (step (.level 5)) T) := Lib.hid rfl
  have HN := Lib.hid hne
  obtain ⟨t0, S0, hT0⟩ := hp.row.cons
  generalize run (f + 1) (.level 5) T = res at *
  subst hT0
  simp only [level_five] at HR
  clear hp hne
  go_enter Tryd.func82, Tryd.ntmps82
  go_wp2_with fail
  cases hr : run f .unary (t0 :: S0) with
  | out =>
    rw [hr] at HR
    exact absurd HR.out HN.out
  | bad R9 =>
    rw [hr] at HR
    refine (HHU.out (t0 :: S0) _ HK.out.at_ (by rw [hr]; exact fun h => by cases h)).mono ?_
    rw [hr]
    rintro e w8 ⟨t8, S8, rfl, rfl, hg⟩
    have HG := Lib.hid (grown_trans HK.out.grown hg)
    clear hg hr
    unfold faultV
    go_wp2_with fail
    exact ⟨rfl, by rw [HR.out]; exact ⟨t8, S8, rfl, rfl, HG.out⟩⟩
  | ok y R1 =>
    rw [hr] at HR
    refine (HHU.out (t0 :: S0) _ HK.out.at_ (by rw [hr]; exact fun h => by cases h)).mono ?_
    rw [hr]
    rintro e W1 ⟨s1, rfl, ha, hk⟩
    clear hr
    have HAy : Hid (IsE W1 (fun g => w.heap.size < g) (exL y s1) y) := Lib.hid (ha.wide fun g hg => Nat.lt_of_lt_of_le HX.out.lt hg)
    clear ha
    replace HX := Lib.hid (HX.out.keep hk HPB.out)
    replace HK := Lib.hid (HK.out.trans hk)
    clear hk
    obtain ⟨x0, x1, x2, x3, x4, x5, x6, x7, xf⟩ := (Box8.cells HX.out)
    have y0 := xf 0
    have y1 := xf 1
    have y2 := xf 2
    have y3 := xf 3
    have y4 := xf 4
    have y5 := xf 5
    have y6 := xf 6
    have y7 := xf 7
    have hxl := HX.out.lt
    clear xf
    have HS := Lib.hid (ret_tree HX.out HB0.out HK.out HLT.out HAy.out rfl)
    unfold set8 at HS
    unfold exOf exV
    go_wp2_with fail
    generalize World.setCell _ _ _ = w9 at *
    rw [HR.out]
    exact ret_expr Tryd.results82 rfl rfl (HS.out _ (Below.refl _ _))
end Go.Proofs.YtecpldnjpapalaaDoor
