/-
  The walk of item.
-/
import Derived.Test.YtecpldnjpapalaaDoorGNode
import Derived.Deep.RegionHeld3
import Derived.BigQuiet
import Derived.RegionDies
namespace Go.Proofs.YtecpldnjpapalaaDoor
open Go.RowKit
set_option maxRecDepth 100000 in
set_option maxHeartbeats 4000000 in
theorem w_item (f p : Nat) (hf : Says f .fn 68 #[ptrV p] p) (hl : ∀ t, Says f (.letb t) 70 #[ptrV p, tokVal t] p) (hc : ∀ k t, k ≠ 19 → Says f (.cases k t) 71 #[ptrV p, .int .i64 k, tokVal t] p) (hi : ∀ t, Says f (.choice t) 72 #[ptrV p, tokVal t] p) (hp1 : Says f .post 73 #[ptrV p] p) (ha : Says f .asg 69 #[ptrV p] p) : Says (f + 1) .item 57 #[ptrV p] p := by
  have HHF := Lib.hid hf
  clear hf
  have HHL := Lib.hid hl
  clear hl
  have HHC := Lib.hid hc
  clear hc
  have HHI := Lib.hid hi
  clear hi
  have HHP1 := Lib.hid hp1
  clear hp1
  have HHA := Lib.hid ha
  clear ha
  intro T w hp hne
  have HLT := Lib.hid hp.lt
  have HK := Lib.hid (Keep.start hp)
  have hbx := below_one' (w := w) zeroObj
  have HX : Hid (ZeroBox (w.alloc zeroObj) w.heap.size) := Lib.hid (ZeroBox.new w)
  replace HK := Lib.hid (HK.out.below hbx)
  clear hbx
  have HPB : Hid (p < w.heap.size) := Lib.hid (by have := HLT.out; omega)
  have HB0 : Hid (w.heap.size ≤ w.heap.size) := Lib.hid (by omega)
  have HR : Hid (run (f + 1) .item T = exec (run f) (step .item) T) := Lib.hid rfl
  have HN := Lib.hid hne
  obtain ⟨t0, S0, hT0⟩ := hp.row.cons
  generalize run (f + 1) .item T = res at *
  subst hT0
  simp only [step, exec] at HR
  clear hp hne
  go_enter Tryd.func57, Tryd.ntmps57
  have HAC := Lib.hid (fun W b h hb => sees_lit p t0 S0 [sFun] _ _ rfl rfl (by decide) W b h hb)
  go_wp2_with fail
  refine (HAC.out _ _ HK.out.at_ (by simp)).mono ?_
  rintro e W1 ⟨rfl, hb2⟩
  replace HX := Lib.hid (HX.out.below hb2)
  replace HK := Lib.hid (HK.out.below hb2)
  clear hb2 HAC
  cases hy : isOne [sFun] t0 with
  | true =>
    rw [hy, if_pos rfl] at HR
    clear hy
    go_wp2_with fail
    cases hr : run f .fn (t0 :: S0) with
    | out =>
      rw [hr] at HR
      exact absurd HR.out HN.out
    | bad R9 =>
      rw [hr] at HR
      refine (HHF.out (t0 :: S0) _ HK.out.at_ (by rw [hr]; exact fun h => by cases h)).mono ?_
      rw [hr]
      rintro e w8 ⟨t8, S8, rfl, rfl, hg⟩
      have HG := Lib.hid (grown_trans HK.out.grown hg)
      clear hg hr
      unfold faultV
      go_wp2_with fail
      exact ⟨rfl, by rw [HR.out]; exact ⟨t8, S8, rfl, rfl, HG.out⟩⟩
    | ok y R2 =>
      rw [hr] at HR
      refine (HHF.out (t0 :: S0) _ HK.out.at_ (by rw [hr]; exact fun h => by cases h)).mono ?_
      rw [hr]
      rintro e W2 ⟨s2, rfl, ha, hk⟩
      clear hr
      have HAy : Hid (IsE W2 (fun g => w.heap.size < g) (exL y s2) y) := Lib.hid (ha.wide fun g hg => Nat.lt_of_lt_of_le HX.out.lt hg)
      clear ha
      replace HX := Lib.hid (HX.out.keep hk HPB.out)
      replace HK := Lib.hid (HK.out.trans hk)
      clear hk
      obtain ⟨x0, x1, x2, x3, x4, x5, x6, x7, xf⟩ := (Box8.cells HX.out)
      have y0 := xf 0
      have y1 := xf 1
      have y2 := xf 2
      have y3 := xf 3
      have y4 := xf 4
      have y5 := xf 5
      have y6 := xf 6
      have y7 := xf 7
      have hxl := HX.out.lt
      clear xf
      have HS := Lib.hid (ret_tree HX.out HB0.out HK.out HLT.out HAy.out rfl)
      unfold set8 at HS
      unfold exOf exV
      go_wp2_with fail
      generalize World.setCell _ _ _ = w9 at *
      rw [HR.out]
      exact ret_expr Tryd.results57 rfl rfl (HS.out _ (Below.refl _ _))
  | false =>
    rw [hy, if_neg (by decide)] at HR
    clear hy
    have HAC := Lib.hid (fun W b h hb => accept_lit p t0 S0 [sLet, sMatch, sTry, sIf, sRaise] _ _ rfl rfl (by decide) W b h hb)
    go_wp2_with fail
    refine (HAC.out _ _ HK.out.at_ (by simp)).mono ?_
    rintro e W2 (⟨hy, rfl, hp2, hg2⟩ | ⟨hy, rfl, hb2⟩)
    · rw [hy, if_pos rfl] at HR
      have hk2 := Keep.mk hp2 hg2
      replace HX := Lib.hid (HX.out.keep hk2 HPB.out)
      replace HK := Lib.hid (HK.out.trans hk2)
      clear hy hp2 hg2 hk2 HAC
      have hbx := below_one' (w := W2) (tokObj t0)
      have HT := Lib.hid (TkBox.new W2 t0)
      have HTP : Hid (p < W2.heap.size) := Lib.hid (by have := HPB.out; have := HX.out.lt; omega)
      have HTZ : Hid (w.heap.size < W2.heap.size) := Lib.hid HX.out.lt
      replace HX := Lib.hid (HX.out.below hbx)
      replace HK := Lib.hid (HK.out.below hbx)
      clear hbx
      obtain ⟨k0, k1, k2, k3, _⟩ := TokBox.cells (HT.out); have kl := (HT.out).lt
      by_cases hx : t0.1.text = sLet
      · rw [if_pos hx] at HR
        have BsLet : (t0.1.text == [108, 101, 116]) = true := by rw [hx]; rfl
        clear hx
        simp only [exec] at HR
        unfold tokVal tokAgg
        go_wp2_with fail
        cases hr : run f (.letb t0) S0 with
        | out =>
          rw [hr] at HR
          exact absurd HR.out HN.out
        | bad R9 =>
          rw [hr] at HR
          refine (HHL.out _ S0 _ HK.out.at_ (by rw [hr]; exact fun h => by cases h)).mono ?_
          rw [hr]
          rintro e w8 ⟨t8, S8, rfl, rfl, hg⟩
          have HG := Lib.hid (grown_trans HK.out.grown hg)
          clear hg hr
          unfold faultV
          go_wp2_with fail
          exact ⟨rfl, by rw [HR.out]; exact ⟨t8, S8, rfl, rfl, HG.out⟩⟩
        | ok y R3 =>
          rw [hr] at HR
          refine (HHL.out _ S0 _ HK.out.at_ (by rw [hr]; exact fun h => by cases h)).mono ?_
          rw [hr]
          rintro e W3 ⟨s3, rfl, ha, hk⟩
          clear hr
          have HAy : Hid (IsE W3 (fun g => w.heap.size < g) (exL y s3) y) := Lib.hid (ha.wide fun g hg => Nat.lt_of_lt_of_le HX.out.lt hg)
          clear ha
          replace HX := Lib.hid (HX.out.keep hk HPB.out)
          replace HT := Lib.hid (HT.out.keep hk HTP.out)
          replace HK := Lib.hid (HK.out.trans hk)
          clear hk
          obtain ⟨x0, x1, x2, x3, x4, x5, x6, x7, xf⟩ := (Box8.cells HX.out)
          have y0 := xf 0
          have y1 := xf 1
          have y2 := xf 2
          have y3 := xf 3
          have y4 := xf 4
          have y5 := xf 5
          have y6 := xf 6
          have y7 := xf 7
          have hxl := HX.out.lt
          clear xf
          have HS := Lib.hid (ret_tree HX.out HB0.out HK.out HLT.out HAy.out rfl)
          unfold set8 at HS
          unfold exOf exV
          go_wp2_with fail
          generalize World.setCell _ _ _ = w9 at *
          rw [HR.out]
          exact ret_expr Tryd.results57 rfl rfl (HS.out _ (Below.refl _ _))
      · rw [if_neg hx] at HR
        have BsLet : (t0.1.text == [108, 101, 116]) = false := beq_eq_false_iff_ne.2 hx
        clear hx
        by_cases hx : t0.1.text = sMatch
        · rw [if_pos hx] at HR
          have BsMatch : (t0.1.text == [109, 97, 116, 99, 104]) = true := by rw [hx]; rfl
          clear hx
          simp only [exec] at HR
          unfold tokVal tokAgg
          go_wp2_with fail
          cases hr : run f (.cases 16 t0) S0 with
          | out =>
            rw [hr] at HR
            exact absurd HR.out HN.out
          | bad R9 =>
            rw [hr] at HR
            refine (HHC.out _ _ (by decide) S0 _ HK.out.at_ (by rw [hr]; exact fun h => by cases h)).mono ?_
            rw [hr]
            rintro e w8 ⟨t8, S8, rfl, rfl, hg⟩
            have HG := Lib.hid (grown_trans HK.out.grown hg)
            clear hg hr
            unfold faultV
            go_wp2_with fail
            exact ⟨rfl, by rw [HR.out]; exact ⟨t8, S8, rfl, rfl, HG.out⟩⟩
          | ok y R3 =>
            rw [hr] at HR
            refine (HHC.out _ _ (by decide) S0 _ HK.out.at_ (by rw [hr]; exact fun h => by cases h)).mono ?_
            rw [hr]
            rintro e W3 ⟨s3, rfl, ha, hk⟩
            clear hr
            have HAy : Hid (IsE W3 (fun g => w.heap.size < g) (exL y s3) y) := Lib.hid (ha.wide fun g hg => Nat.lt_of_lt_of_le HX.out.lt hg)
            clear ha
            replace HX := Lib.hid (HX.out.keep hk HPB.out)
            replace HT := Lib.hid (HT.out.keep hk HTP.out)
            replace HK := Lib.hid (HK.out.trans hk)
            clear hk
            obtain ⟨x0, x1, x2, x3, x4, x5, x6, x7, xf⟩ := (Box8.cells HX.out)
            have y0 := xf 0
            have y1 := xf 1
            have y2 := xf 2
            have y3 := xf 3
            have y4 := xf 4
            have y5 := xf 5
            have y6 := xf 6
            have y7 := xf 7
            have hxl := HX.out.lt
            clear xf
            have HS := Lib.hid (ret_tree HX.out HB0.out HK.out HLT.out HAy.out rfl)
            unfold set8 at HS
            unfold exOf exV
            go_wp2_with fail
            generalize World.setCell _ _ _ = w9 at *
            rw [HR.out]
            exact ret_expr Tryd.results57 rfl rfl (HS.out _ (Below.refl _ _))
        · rw [if_neg hx] at HR
          have BsMatch : (t0.1.text == [109, 97, 116, 99, 104]) = false := beq_eq_false_iff_ne.2 hx
          clear hx
          by_cases hx : t0.1.text = sTry
          · rw [if_pos hx] at HR
            have BsTry : (t0.1.text == [116, 114, 121]) = true := by rw [hx]; rfl
            clear hx
            simp only [exec] at HR
            unfold tokVal tokAgg
            go_wp2_with fail
            cases hr : run f (.cases 17 t0) S0 with
            | out =>
              rw [hr] at HR
              exact absurd HR.out HN.out
            | bad R9 =>
              rw [hr] at HR
              refine (HHC.out _ _ (by decide) S0 _ HK.out.at_ (by rw [hr]; exact fun h => by cases h)).mono ?_
              rw [hr]
              rintro e w8 ⟨t8, S8, rfl, rfl, hg⟩
              have HG := Lib.hid (grown_trans HK.out.grown hg)
              clear hg hr
              unfold faultV
              go_wp2_with fail
              exact ⟨rfl, by rw [HR.out]; exact ⟨t8, S8, rfl, rfl, HG.out⟩⟩
            | ok y R3 =>
              rw [hr] at HR
              refine (HHC.out _ _ (by decide) S0 _ HK.out.at_ (by rw [hr]; exact fun h => by cases h)).mono ?_
              rw [hr]
              rintro e W3 ⟨s3, rfl, ha, hk⟩
              clear hr
              have HAy : Hid (IsE W3 (fun g => w.heap.size < g) (exL y s3) y) := Lib.hid (ha.wide fun g hg => Nat.lt_of_lt_of_le HX.out.lt hg)
              clear ha
              replace HX := Lib.hid (HX.out.keep hk HPB.out)
              replace HT := Lib.hid (HT.out.keep hk HTP.out)
              replace HK := Lib.hid (HK.out.trans hk)
              clear hk
              obtain ⟨x0, x1, x2, x3, x4, x5, x6, x7, xf⟩ := (Box8.cells HX.out)
              have y0 := xf 0
              have y1 := xf 1
              have y2 := xf 2
              have y3 := xf 3
              have y4 := xf 4
              have y5 := xf 5
              have y6 := xf 6
              have y7 := xf 7
              have hxl := HX.out.lt
              clear xf
              have HS := Lib.hid (ret_tree HX.out HB0.out HK.out HLT.out HAy.out rfl)
              unfold set8 at HS
              unfold exOf exV
              go_wp2_with fail
              generalize World.setCell _ _ _ = w9 at *
              rw [HR.out]
              exact ret_expr Tryd.results57 rfl rfl (HS.out _ (Below.refl _ _))
          · rw [if_neg hx] at HR
            have BsTry : (t0.1.text == [116, 114, 121]) = false := beq_eq_false_iff_ne.2 hx
            clear hx
            by_cases hx : t0.1.text = sIf
            · rw [if_pos hx] at HR
              have BsIf : (t0.1.text == [105, 102]) = true := by rw [hx]; rfl
              clear hx
              simp only [exec] at HR
              unfold tokVal tokAgg
              go_wp2_with fail
              cases hr : run f (.choice t0) S0 with
              | out =>
                rw [hr] at HR
                exact absurd HR.out HN.out
              | bad R9 =>
                rw [hr] at HR
                refine (HHI.out _ S0 _ HK.out.at_ (by rw [hr]; exact fun h => by cases h)).mono ?_
                rw [hr]
                rintro e w8 ⟨t8, S8, rfl, rfl, hg⟩
                have HG := Lib.hid (grown_trans HK.out.grown hg)
                clear hg hr
                unfold faultV
                go_wp2_with fail
                exact ⟨rfl, by rw [HR.out]; exact ⟨t8, S8, rfl, rfl, HG.out⟩⟩
              | ok y R3 =>
                rw [hr] at HR
                refine (HHI.out _ S0 _ HK.out.at_ (by rw [hr]; exact fun h => by cases h)).mono ?_
                rw [hr]
                rintro e W3 ⟨s3, rfl, ha, hk⟩
                clear hr
                have HAy : Hid (IsE W3 (fun g => w.heap.size < g) (exL y s3) y) := Lib.hid (ha.wide fun g hg => Nat.lt_of_lt_of_le HX.out.lt hg)
                clear ha
                replace HX := Lib.hid (HX.out.keep hk HPB.out)
                replace HT := Lib.hid (HT.out.keep hk HTP.out)
                replace HK := Lib.hid (HK.out.trans hk)
                clear hk
                obtain ⟨x0, x1, x2, x3, x4, x5, x6, x7, xf⟩ := (Box8.cells HX.out)
                have y0 := xf 0
                have y1 := xf 1
                have y2 := xf 2
                have y3 := xf 3
                have y4 := xf 4
                have y5 := xf 5
                have y6 := xf 6
                have y7 := xf 7
                have hxl := HX.out.lt
                clear xf
                have HS := Lib.hid (ret_tree HX.out HB0.out HK.out HLT.out HAy.out rfl)
                unfold set8 at HS
                unfold exOf exV
                go_wp2_with fail
                generalize World.setCell _ _ _ = w9 at *
                rw [HR.out]
                exact ret_expr Tryd.results57 rfl rfl (HS.out _ (Below.refl _ _))
            · rw [if_neg hx] at HR
              have BsIf : (t0.1.text == [105, 102]) = false := beq_eq_false_iff_ne.2 hx
              clear hx
              simp only [exec] at HR
              have hnd : ∀ y, node 18 t0 [y] = .mk ⟨18, t0.2, [], 0, [], []⟩ [y] [] := fun _ => rfl
              simp only [hnd] at HR
              clear hnd
              unfold tokVal tokAgg
              go_upto_region 15 with fail
              generalize hb0 : W2.heap.size = b0 at *
              clear hb0
              generalize (W2.alloc (tokObj t0)) = w3 at *
              have HKd := Lib.hid (HK.out.below (drew_below _))
              obtain ⟨k0, k1, k2, k3, _⟩ := TokBox.cells (HT.out); have kl := (HT.out).lt
              have n0 : ¬ b0 = w.heap.size := by have := HTZ.out; omega
              have m0 : ¬ w.heap.size = b0 := by have := HTZ.out; omega
              cases hr : run f .post S0 with
              | out =>
                rw [hr] at HR
                exact absurd HR.out HN.out
              | bad R9 =>
                rw [hr] at HR
                have HSC : Hid (∀ W, PAt W p S0 → Calls Tryd.prog 73 #[ptrV p] W (Told (.bad R9) W p)) := Lib.hid (fun W h => by
                  have := HHP1.out S0 W h (by rw [hr]; exact fun h => by cases h)
                  rwa [hr] at this)
                clear hr
                go_region_dies
                all_goals
                  refine (HSC.out _ HKd.out.at_).mono ?_
                  rintro e w8 ⟨t8, S8, rfl, rfl, hg⟩
                  have HG := Lib.hid (grown_trans HKd.out.grown hg)
                  exact ⟨rfl, by rw [HR.out]; exact ⟨t8, S8, rfl, rfl, HG.out⟩⟩
              | ok b Ry =>
                rw [hr] at HR
                have HSC : Hid (∀ W, PAt W p S0 → Calls Tryd.prog 73 #[ptrV p] W (Told (.ok b Ry) W p)) := Lib.hid (fun W h => by
                  have := HHP1.out S0 W h (by rw [hr]; exact fun h => by cases h)
                  rwa [hr] at this)
                clear hr
                go_region_held3 (fun W => W.cell? ⟨b0, 0, none⟩ = some (.int .i64 t0.1.kind) ∧ W.cell? ⟨b0, 1, none⟩ = some (.int .i64 (t0.2 : Nat)) ∧ W.cell? ⟨b0, 2, none⟩ = some (.string ⟨t0.1.text.toArray⟩) ∧ W.cell? ⟨b0, 3, none⟩ = some (.int .i64 t0.1.n)) (go_keep) (first | (go_at_call 73; refine (HSC.out _ HKd.out.at_).mono ?_; rintro e Wy ⟨sy, rfl, ha, hk⟩; have HAb : Hid (IsE Wy (fun g => w.heap.size < g) (exL b sy) b) := Lib.hid (ha.wide fun g hg => Nat.lt_of_lt_of_le (HX.out.below (drew_below _)).lt hg); replace HX := Lib.hid ((HX.out.below (drew_below _)).keep hk HPB.out); replace HT := Lib.hid ((HT.out.below (drew_below _)).keep hk HTP.out); replace HK := Lib.hid (HKd.out.trans hk); clear HKd; obtain ⟨k0, k1, k2, k3, _⟩ := TokBox.cells (HT.out); have kl := (HT.out).lt; clear ha hk; unfold exOf exV) | (go_at_call 59; refine (p_node 18 t0 _ _ _ _).mono ?_; rintro e Wz ⟨rfl, hb2⟩; have HNR := Lib.hid (node_row (L := [exL b sy]) (args := [b]) HK.out ⟨HAb.out, trivial⟩ HX.out.lt (by simp) ⟨18, t0.2, [], 0, [], []⟩ rfl hb2); replace HX := Lib.hid (HX.out.below HNR.out.2.2); replace HT := Lib.hid (HT.out.below HNR.out.2.2); obtain ⟨k0, k1, k2, k3, _⟩ := TokBox.cells (HT.out); have kl := (HT.out).lt; obtain ⟨x0, x1, x2, x3, x4, x5, x6, x7, xf⟩ := (Box8.cells HX.out); have y0 := xf 0; have y1 := xf 1; have y2 := xf 2; have y3 := xf 3; have y4 := xf 4; have y5 := xf 5; have y6 := xf 6; have y7 := xf 7; have hxl := HX.out.lt; clear xf; clear hb2; unfold exV))
                have HS := Lib.hid (ret_node HX.out HB0.out HLT.out ⟨HNR.out.1, HNR.out.2.1⟩ 1 rfl ⟨#[]⟩ rfl rfl)
                unfold set8 at HS
                go_wp2_with fail
                generalize World.setCell _ _ _ = w9 at *
                rw [HR.out]
                exact ret_expr Tryd.results57 rfl rfl (HS.out _ (Below.refl _ _))
    · rw [hy, if_neg (by decide)] at HR
      replace HX := Lib.hid (HX.out.below hb2)
      replace HK := Lib.hid (HK.out.below hb2)
      clear hb2 HAC
      have hbp := below_one' (w := W2) zeroTok
      replace HX := Lib.hid (HX.out.below hbp)
      replace HK := Lib.hid (HK.out.below hbp)
      clear hbp
      unfold tokAgg
      go_wp2_with fail
      cases hr : run f .asg (t0 :: S0) with
      | out =>
        rw [hr] at HR
        exact absurd HR.out HN.out
      | bad R9 =>
        rw [hr] at HR
        refine (HHA.out (t0 :: S0) _ HK.out.at_ (by rw [hr]; exact fun h => by cases h)).mono ?_
        rw [hr]
        rintro e w8 ⟨t8, S8, rfl, rfl, hg⟩
        have HG := Lib.hid (grown_trans HK.out.grown hg)
        clear hg hr
        unfold faultV
        go_wp2_with fail
        exact ⟨rfl, by rw [HR.out]; exact ⟨t8, S8, rfl, rfl, HG.out⟩⟩
      | ok y R3 =>
        rw [hr] at HR
        refine (HHA.out (t0 :: S0) _ HK.out.at_ (by rw [hr]; exact fun h => by cases h)).mono ?_
        rw [hr]
        rintro e W3 ⟨s3, rfl, ha, hk⟩
        clear hr
        have HAy : Hid (IsE W3 (fun g => w.heap.size < g) (exL y s3) y) := Lib.hid (ha.wide fun g hg => Nat.lt_of_lt_of_le HX.out.lt hg)
        clear ha
        replace HX := Lib.hid (HX.out.keep hk HPB.out)
        replace HK := Lib.hid (HK.out.trans hk)
        clear hk
        obtain ⟨x0, x1, x2, x3, x4, x5, x6, x7, xf⟩ := (Box8.cells HX.out)
        have y0 := xf 0
        have y1 := xf 1
        have y2 := xf 2
        have y3 := xf 3
        have y4 := xf 4
        have y5 := xf 5
        have y6 := xf 6
        have y7 := xf 7
        have hxl := HX.out.lt
        clear xf
        have HS := Lib.hid (ret_tree HX.out HB0.out HK.out HLT.out HAy.out rfl)
        unfold set8 at HS
        unfold exOf exV
        go_wp2_with fail
        generalize World.setCell _ _ _ = w9 at *
        rw [HR.out]
        exact ret_expr Tryd.results57 rfl rfl (HS.out _ (Below.refl _ _))
end Go.Proofs.YtecpldnjpapalaaDoor
