/-
  The walk of post.
-/
import Derived.Test.YtecpldnjpapalaaDoorGNode
import Derived.Maps.AppendAt
import Derived.Deep.RegionHeld3
import Derived.BigQuiet
import Derived.RegionDies
namespace Go.Proofs.YtecpldnjpapalaaDoor
open Go.RowKit
set_option maxRecDepth 100000 in
set_option maxHeartbeats 4000000 in
theorem w_post (f p : Nat) (hp1 : Says f .post 73 #[ptrV p] p) (ha : Says f .atom 84 #[ptrV p] p) : Says (f + 1) .post 73 #[ptrV p] p := by
  have HHP1 := Lib.hid hp1
  clear hp1
  have HHA := Lib.hid ha
  clear ha
  intro T w hp hne
  have HLT := Lib.hid hp.lt
  have HK := Lib.hid (Keep.start hp)
  have hbx := below_one' (w := w) zeroObj
  have HX : Hid (ZeroBox (w.alloc zeroObj) w.heap.size) := Lib.hid (ZeroBox.new w)
  replace HK := Lib.hid (HK.out.below hbx)
  clear hbx
  have HPB : Hid (p < w.heap.size) := Lib.hid (by have := HLT.out; omega)
  have HB0 : Hid (w.heap.size ≤ w.heap.size) := Lib.hid (by omega)
  have HR : Hid (run (f + 1) .post T = exec (run f) (step .post) T) := Lib.hid rfl
  have HN := Lib.hid hne
  obtain ⟨t0, S0, hT0⟩ := hp.row.cons
  generalize run (f + 1) .post T = res at *
  subst hT0
  simp only [step, exec] at HR
  clear hp hne
  go_enter Tryd.func73, Tryd.ntmps73
  have HAC := Lib.hid (fun W b h hb => accept_lit p t0 S0 [sBang] _ _ rfl rfl (by decide) W b h hb)
  go_wp2_with fail
  refine (HAC.out _ _ HK.out.at_ (by simp)).mono ?_
  rintro e W1 (⟨hy, rfl, hp2, hg2⟩ | ⟨hy, rfl, hb2⟩)
  · rw [hy, if_pos rfl] at HR
    have hk2 := Keep.mk hp2 hg2
    replace HX := Lib.hid (HX.out.keep hk2 HPB.out)
    replace HK := Lib.hid (HK.out.trans hk2)
    clear hy hp2 hg2 hk2 HAC
    have hbx := below_one' (w := W1) (tokObj t0)
    have HT := Lib.hid (TkBox.new W1 t0)
    have HTP : Hid (p < W1.heap.size) := Lib.hid (by have := HPB.out; have := HX.out.lt; omega)
    have HTZ : Hid (w.heap.size < W1.heap.size) := Lib.hid HX.out.lt
    replace HX := Lib.hid (HX.out.below hbx)
    replace HK := Lib.hid (HK.out.below hbx)
    clear hbx
    have hnd : ∀ y, node 19 t0 [y] = .mk ⟨19, t0.2, [], opOf t0.1.text, [], []⟩ [y] [] := fun _ => rfl
    simp only [hnd] at HR
    clear hnd
    unfold tokVal tokAgg
    go_upto_region 3 with fail
    generalize hb0 : W1.heap.size = b0 at *
    clear hb0
    generalize (W1.alloc (tokObj t0)) = w3 at *
    have HKd := Lib.hid (HK.out.below (drew_below _))
    obtain ⟨k0, k1, k2, k3, _⟩ := TokBox.cells (HT.out); have kl := (HT.out).lt
    have n0 : ¬ b0 = w.heap.size := by have := HTZ.out; omega
    have m0 : ¬ w.heap.size = b0 := by have := HTZ.out; omega
    cases hr : run f .post S0 with
    | out =>
      rw [hr] at HR
      exact absurd HR.out HN.out
    | bad R9 =>
      rw [hr] at HR
      have HSC : Hid (∀ W, PAt W p S0 → Calls Tryd.prog 73 #[ptrV p] W (Told (.bad R9) W p)) := Lib.hid (fun W h => by
        have := HHP1.out S0 W h (by rw [hr]; exact fun h => by cases h)
        rwa [hr] at this)
      clear hr
      go_region_dies
      all_goals
        refine (HSC.out _ HKd.out.at_).mono ?_
        rintro e w8 ⟨t8, S8, rfl, rfl, hg⟩
        have HG := Lib.hid (grown_trans HKd.out.grown hg)
        exact ⟨rfl, by rw [HR.out]; exact ⟨t8, S8, rfl, rfl, HG.out⟩⟩
    | ok y Ry =>
      rw [hr] at HR
      have HSC : Hid (∀ W, PAt W p S0 → Calls Tryd.prog 73 #[ptrV p] W (Told (.ok y Ry) W p)) := Lib.hid (fun W h => by
        have := HHP1.out S0 W h (by rw [hr]; exact fun h => by cases h)
        rwa [hr] at this)
      clear hr
      go_region_held3 (fun W => W.cell? ⟨b0, 0, none⟩ = some (.int .i64 t0.1.kind) ∧ W.cell? ⟨b0, 1, none⟩ = some (.int .i64 (t0.2 : Nat)) ∧ W.cell? ⟨b0, 2, none⟩ = some (.string ⟨t0.1.text.toArray⟩) ∧ W.cell? ⟨b0, 3, none⟩ = some (.int .i64 t0.1.n)) (go_keep) (first | (go_at_call 73; refine (HSC.out _ HKd.out.at_).mono ?_; rintro e Wy ⟨sy, rfl, ha, hk⟩; have HAy : Hid (IsE Wy (fun g => w.heap.size < g) (exL y sy) y) := Lib.hid (ha.wide fun g hg => Nat.lt_of_lt_of_le (HX.out.below (drew_below _)).lt hg); replace HX := Lib.hid ((HX.out.below (drew_below _)).keep hk HPB.out); replace HT := Lib.hid ((HT.out.below (drew_below _)).keep hk HTP.out); replace HK := Lib.hid (HKd.out.trans hk); clear HKd; obtain ⟨k0, k1, k2, k3, _⟩ := TokBox.cells (HT.out); have kl := (HT.out).lt; clear ha hk; unfold exOf exV) | (go_at_call 59; refine (p_node 19 t0 _ _ _ _).mono ?_; rintro e Wz ⟨rfl, hb2⟩; have HNR := Lib.hid (node_row (L := [exL y sy]) (args := [y]) HK.out ⟨HAy.out, trivial⟩ HX.out.lt (by simp) ⟨19, t0.2, [], opOf t0.1.text, [], []⟩ rfl hb2); replace HX := Lib.hid (HX.out.below HNR.out.2.2); replace HT := Lib.hid (HT.out.below HNR.out.2.2); obtain ⟨k0, k1, k2, k3, _⟩ := TokBox.cells (HT.out); have kl := (HT.out).lt; obtain ⟨x0, x1, x2, x3, x4, x5, x6, x7, xf⟩ := (Box8.cells HX.out); have y0 := xf 0; have y1 := xf 1; have y2 := xf 2; have y3 := xf 3; have y4 := xf 4; have y5 := xf 5; have y6 := xf 6; have y7 := xf 7; have hxl := HX.out.lt; clear xf; clear hb2; unfold exV))
      have HS := Lib.hid (ret_node HX.out HB0.out HLT.out ⟨HNR.out.1, HNR.out.2.1⟩ 1 rfl ⟨#[]⟩ rfl rfl)
      unfold set8 at HS
      go_wp2_with fail
      generalize World.setCell _ _ _ = w9 at *
      rw [HR.out]
      exact ret_expr Tryd.results73 rfl rfl (HS.out _ (Below.refl _ _))
  · rw [hy, if_neg (by decide)] at HR
    replace HX := Lib.hid (HX.out.below hb2)
    replace HK := Lib.hid (HK.out.below hb2)
    clear hb2 HAC
    have hbp := below_one' (w := W1) zeroTok
    replace HX := Lib.hid (HX.out.below hbp)
    replace HK := Lib.hid (HK.out.below hbp)
    clear hbp
    unfold tokAgg
    go_wp2_with fail
    cases hr : run f .atom (t0 :: S0) with
    | out =>
      rw [hr] at HR
      exact absurd HR.out HN.out
    | bad R9 =>
      rw [hr] at HR
      refine (HHA.out (t0 :: S0) _ HK.out.at_ (by rw [hr]; exact fun h => by cases h)).mono ?_
      rw [hr]
      rintro e w8 ⟨t8, S8, rfl, rfl, hg⟩
      have HG := Lib.hid (grown_trans HK.out.grown hg)
      clear hg hr
      unfold faultV
      go_wp2_with fail
      exact ⟨rfl, by rw [HR.out]; exact ⟨t8, S8, rfl, rfl, HG.out⟩⟩
    | ok x R2 =>
      rw [hr] at HR
      refine (HHA.out (t0 :: S0) _ HK.out.at_ (by rw [hr]; exact fun h => by cases h)).mono ?_
      rw [hr]
      rintro e W2 ⟨s2, rfl, ha, hk⟩
      clear hr
      have HAx : Hid (IsE W2 (fun g => w.heap.size < g) (exL x s2) x) := Lib.hid (ha.wide fun g hg => Nat.lt_of_lt_of_le HX.out.lt hg)
      clear ha
      replace HX := Lib.hid (HX.out.keep hk HPB.out)
      replace HK := Lib.hid (HK.out.trans hk)
      clear hk
      simp only at HR
      have HRL : Hid (∃ k, k ≤ f ∧ res = run k (.dots x) R2) := Lib.hid ⟨f, Nat.le_refl _, by rw [HR.out]; cases run f (.dots x) R2 <;> rfl⟩
      have HA0 : Hid (IsE (W2.alloc (exObj x s2)) (Nb w.heap.size W2.heap.size) (exL x s2) x) := Lib.hid (HAx.out.fresh _)
      have hbx := below_one' (w := W2) (exObj x s2)
      have HF0 := Lib.hid (ExBox.new W2 x s2)
      have HX0 := Lib.hid (HX.out.below hbx)
      have HK0 := Lib.hid (HK.out.below hbx)
      have HNE : Hid (W2.heap.size ≠ w.heap.size ∧ w.heap.size ≤ W2.heap.size ∧ p < W2.heap.size) := Lib.hid ⟨by have := HX.out.lt; omega, HK.out.size, by have := HK.out.size; have := HLT.out; omega⟩
      clear hbx HAx HX HK HR
      unfold exOf exV
      go_wp2_with fail
      generalize hbe : W2.heap.size = be at *
      clear hbe
      generalize W2.alloc (exObj x s2) = w3 at *
      go_loopw [7] (fun _ wr => ∃ (x : Nd) (s : Sl) (R : List Tok), Hid (ExBox wr be x s) ∧ Hid (IsE wr (Nb w.heap.size be) (exL x s) x) ∧ Hid (Keep w p R wr) ∧ Hid (ZeroBox wr w.heap.size) ∧ Hid (∃ k, k ≤ f ∧ res = run k (.dots x) R)) (fun _ wr => lenAt wr p)
      case atStart => exact ⟨x, s2, R2, HF0, HA0, HK0, HX0, HRL⟩
      case round =>
        clear HF0 HA0 HK0 HX0 HRL
        obtain ⟨x, s, R, HF, HA, HK, HX, HRL⟩ := hrel
        obtain ⟨t, S, rfl⟩ := HK.out.at_.row.cons
        have HM := Lib.hid HK.out.at_.len
        obtain ⟨k, hk, HRk⟩ := HRL.out
        obtain ⟨k, rfl⟩ : ∃ j, k = j + 1 := by
          cases k with
          | zero => exact absurd HRk HN.out
          | succ k => exact ⟨k, rfl⟩
        have HR : Hid (res = exec (run k) (step (.dots x)) (t :: S)) := Lib.hid HRk
        simp only [step, name, exec] at HR
        clear HRk HRL
        have HAC := Lib.hid (fun W b h hb => accept_lit p t S [sDot] _ _ rfl rfl (by decide) W b h hb)
        go_wp2_with fail
        refine (HAC.out _ _ HK.out.at_ (by simp)).mono ?_
        rintro e V2 (⟨hy, rfl, hp2, hg2⟩ | ⟨hy, rfl, hb2⟩)
        · rw [hy, if_pos rfl] at HR
          have hk2 := Keep.mk hp2 hg2
          replace HF := Lib.hid (HF.out.keep hk2 HNE.out.2.2)
          replace HA := Lib.hid (HA.out.keep hk2 (fun g hg => Nat.lt_trans HPB.out hg.1))
          replace HX := Lib.hid (HX.out.keep hk2 HPB.out)
          replace HK := Lib.hid (HK.out.trans hk2)
          have hbx := below_one' (w := V2) (tokObj t)
          have HT := Lib.hid (TkBox.new V2 t)
          replace HF := Lib.hid (HF.out.below hbx)
          replace HA := Lib.hid (HA.out.below hbx)
          replace HX := Lib.hid (HX.out.below hbx)
          replace HK := Lib.hid (HK.out.below hbx)
          clear hy hp2 hg2 hk2 HAC hbx
          obtain ⟨e0, e1, e2, e3, e4, e5, e6, e7, _⟩ := Box8.cells HF.out
          have el := HF.out.lt
          obtain ⟨k0, k1, k2, k3, _⟩ := TokBox.cells HT.out
          have kl := HT.out.lt
          unfold tokVal tokAgg
          go_wp2_with fail
          refine (p_node 14 t (some _) 1 1 _).mono ?_
          rintro e V3 ⟨rfl, hb3⟩
          have HNR := Lib.hid (node_rowN (N := Nb w.heap.size be) (L := [exL x s]) (args := [x]) HK.out ⟨HA.out, trivial⟩ ⟨HX.out.lt, Nat.ne_of_gt el⟩ (by simp) ⟨14, t.2, [], 0, [], []⟩ rfl hb3)
          replace HF := Lib.hid (HF.out.below HNR.out.2.2)
          replace HX := Lib.hid (HX.out.below HNR.out.2.2)
          replace HK := Lib.hid HNR.out.2.1
          clear e0 e1 e2 e3 e4 e5 e6 e7 el k0 k1 k2 k3 kl hb3 HT
          obtain ⟨e0, e1, e2, e3, e4, e5, e6, e7, ef⟩ := Box8.cells HF.out
          have g0 := ef 0
          have g1 := ef 1
          have g2 := ef 2
          have g3 := ef 3
          have g4 := ef 4
          have g5 := ef 5
          have g6 := ef 6
          have g7 := ef 7
          have el := HF.out.lt
          have HE9 := Lib.hid (nodeIn_put (h := ⟨14, t.2, [], 0, [], []⟩) (args := [x]) HF.out HNR.out.1 HK.out HLT.out HNE.out.2.1 HNE.out.1 rfl)
          unfold set8 at HE9
          simp only [World.size_alloc, List.length_cons, List.length_nil, Nat.zero_add] at HE9
          clear ef
          unfold exV
          go_upto_region 9 with fail
          have HE := Lib.hid HE9.out.1
          replace HX : Hid (ZeroBox _ w.heap.size) := Lib.hid ((HE9.out.2 _ HNE.out.1.symm).trans HX.out)
          clear HE9 HNR HF HK e0 e1 e2 e3 e4 e5 e6 e7 g0 g1 g2 g3 g4 g5 g6 g7 el
          generalize World.setCell _ _ _ = w5 at *
          obtain ⟨t2, S2, rfl⟩ := HE.out.keep.at_.row.cons
          simp only [exec] at HR
          have HM2 := Lib.hid HE.out.keep.at_.len
          have HNM := Lib.hid (p_name p t2 S2 w5 HE.out.keep.at_)
          go_wp2_with fail
          refine HNM.out.mono ?_
          rintro e V4 (⟨hy, rfl, hp2, hg2⟩ | ⟨hy, rfl, hb2⟩)
          · rw [hy, if_pos rfl] at HR
            have hk2 := Keep.mk hp2 hg2
            replace HX := Lib.hid (HX.out.keep hk2 HPB.out)
            replace HE := Lib.hid (HE.out.more HPB.out hk2)
            clear hy hp2 hg2 hk2 HNM
            obtain ⟨e0, e1, e2, e3, e4, e5, e6, e7, ef⟩ := Box8.cells HE.out.box
            have g2 := ef 2
            have el := HE.out.box.lt
            clear ef
            go_wp2_with fail
            replace HX := Lib.hid (HX.out.set HE.out.ne 2 (.string ⟨t2.1.text.toArray⟩))
            replace HE := Lib.hid (HE.out.name t2.1.text)
            clear e0 e1 e2 e3 e4 e5 e6 e7 g2 el
            generalize World.setCell _ _ _ = w6 at *
            have HM3 := Lib.hid HE.out.keep.at_.len
            go_roundw
            case rel => exact ⟨named 14 t t2.1.text [x], ⟨none, 0, some ⟨V2.heap.size + 1, 0, none⟩, 1, none, 0⟩, S2, Lib.hid HE.out.box, Lib.hid HE.out.tree, Lib.hid HE.out.keep, HX, Lib.hid ⟨k, by omega, by rw [HR.out]; show _ = run k (.dots (named 14 t t2.1.text [x])) S2; cases run k (.dots (named 14 t t2.1.text [x])) S2 <;> rfl⟩⟩
            case measure => rw [HM3.out, HM.out]; simp; omega
          · rw [hy, if_neg (by decide)] at HR
            have HG := Lib.hid (grown_below HE.out.keep.grown hb2)
            clear hb2 HNM
            unfold faultV
            go_wp2_with fail
            exact ⟨rfl, by rw [HR.out]; exact ⟨t2, S2, rfl, rfl, HG.out⟩⟩
        · rw [hy, if_neg (by decide)] at HR
          replace HF := Lib.hid (HF.out.below hb2)
          have HAx := Lib.hid ((HA.out.below hb2).wide (fun g hg => hg.1))
          replace HX := Lib.hid (HX.out.below hb2)
          replace HK := Lib.hid (HK.out.below hb2)
          clear hb2 HAC hy HA
          obtain ⟨x0, x1, x2, x3, x4, x5, x6, x7, xf⟩ := (Box8.cells HX.out)
          have y0 := xf 0
          have y1 := xf 1
          have y2 := xf 2
          have y3 := xf 3
          have y4 := xf 4
          have y5 := xf 5
          have y6 := xf 6
          have y7 := xf 7
          have hxl := HX.out.lt
          clear xf
          obtain ⟨f0, f1, f2, f3, f4, f5, f6, f7, _⟩ := Box8.cells (HF.out); have fl := (HF.out).lt
          have HS := Lib.hid (ret_tree HX.out HB0.out HK.out HLT.out HAx.out rfl)
          unfold set8 at HS
          unfold tokAgg
          go_wp2_with fail
          generalize World.setCell _ _ _ = w9 at *
          rw [HR.out]
          exact ret_expr Tryd.results73 rfl rfl (HS.out _ (below_one' _))
end Go.Proofs.YtecpldnjpapalaaDoor
