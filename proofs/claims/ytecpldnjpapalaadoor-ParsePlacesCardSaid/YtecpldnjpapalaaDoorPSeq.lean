/-
  The walks of seq, assign.
-/
import Derived.Test.YtecpldnjpapalaaDoorGNode
import Derived.Deep.RegionHeld3
import Derived.BigQuiet
import Derived.RegionDies
namespace Go.Proofs.YtecpldnjpapalaaDoor
open Go.RowKit
set_option maxRecDepth 100000 in
set_option maxHeartbeats 4000000 in
theorem w_seq (f p : Nat) (hi : Says f .item 57 #[ptrV p] p) (hs : Says f .seq 50 #[ptrV p] p) : Says (f + 1) .seq 50 #[ptrV p] p := by
  have HHI := Lib.hid hi
  clear hi
  have HHS := Lib.hid hs
  clear hs
  intro T w hp hne
  have HLT := Lib.hid hp.lt
  have HK := Lib.hid (Keep.start hp)
  have hbx := below_one' (w := w) zeroObj
  have HX : Hid (ZeroBox (w.alloc zeroObj) w.heap.size) := Lib.hid (ZeroBox.new w)
  replace HK := Lib.hid (HK.out.below hbx)
  clear hbx
  have HPB : Hid (p < w.heap.size) := Lib.hid (by have := HLT.out; omega)
  have HB0 : Hid (w.heap.size ≤ w.heap.size) := Lib.hid (by omega)
  have HR : Hid (run (f + 1) .seq T = exec (run f) (step .seq) T) := Lib.hid rfl
  have HN := Lib.hid hne
  obtain ⟨t0, S0, hT0⟩ := hp.row.cons
  generalize run (f + 1) .seq T = res at *
  subst hT0
  simp only [step, exec] at HR
  clear hp hne
  go_enter Tryd.func50, Tryd.ntmps50
  go_wp2_with fail
  cases hr : run f .item (t0 :: S0) with
  | out =>
    rw [hr] at HR
    exact absurd HR.out HN.out
  | bad R9 =>
    rw [hr] at HR
    refine (HHI.out (t0 :: S0) _ HK.out.at_ (by rw [hr]; exact fun h => by cases h)).mono ?_
    rw [hr]
    rintro e w8 ⟨t8, S8, rfl, rfl, hg⟩
    have HG := Lib.hid (grown_trans HK.out.grown hg)
    clear hg hr
    unfold faultV
    go_wp2_with fail
    exact ⟨rfl, by rw [HR.out]; exact ⟨t8, S8, rfl, rfl, HG.out⟩⟩
  | ok a R1 =>
    rw [hr] at HR
    refine (HHI.out (t0 :: S0) _ HK.out.at_ (by rw [hr]; exact fun h => by cases h)).mono ?_
    rw [hr]
    rintro e W1 ⟨s1, rfl, ha, hk⟩
    clear hr
    have HAa : Hid (IsE W1 (fun g => w.heap.size < g) (exL a s1) a) := Lib.hid (ha.wide fun g hg => Nat.lt_of_lt_of_le HX.out.lt hg)
    clear ha
    replace HX := Lib.hid (HX.out.keep hk HPB.out)
    replace HK := Lib.hid (HK.out.trans hk)
    clear hk
    have hbx := below_one' (w := W1) (exObj a s1)
    have HF := Lib.hid (ExBox.new W1 a s1)
    have HFP : Hid (p < W1.heap.size) := Lib.hid (by have := HPB.out; have := HX.out.lt; omega)
    have HFZ : Hid (w.heap.size < W1.heap.size) := Lib.hid HX.out.lt
    replace HX := Lib.hid (HX.out.below hbx)
    replace HAa := Lib.hid (HAa.out.below hbx)
    replace HK := Lib.hid (HK.out.below hbx)
    clear hbx
    obtain ⟨t2, S2, rfl⟩ := HK.out.at_.row.cons
    simp only [exec] at HR
    have HAC := Lib.hid (fun W b h hb => accept_lit p t2 S2 [sSemi] _ _ rfl rfl (by decide) W b h hb)
    unfold exOf exV
    go_wp2_with fail
    refine (HAC.out _ _ HK.out.at_ (by simp)).mono ?_
    rintro e W3 (⟨hy, rfl, hp2, hg2⟩ | ⟨hy, rfl, hb2⟩)
    · rw [hy, if_pos rfl] at HR
      have hk2 := Keep.mk hp2 hg2
      replace HX := Lib.hid (HX.out.keep hk2 HPB.out)
      replace HF := Lib.hid (HF.out.keep hk2 HFP.out)
      replace HAa := Lib.hid (HAa.out.keep hk2 (fun g hg => by have := HPB.out; omega))
      replace HK := Lib.hid (HK.out.trans hk2)
      clear hy hp2 hg2 hk2 HAC
      have hbx := below_one' (w := W3) (tokObj t2)
      have HT := Lib.hid (TkBox.new W3 t2)
      have HTP : Hid (p < W3.heap.size) := Lib.hid (by have := HPB.out; have := HX.out.lt; omega)
      have HTZ : Hid (w.heap.size < W3.heap.size) := Lib.hid HX.out.lt
      replace HX := Lib.hid (HX.out.below hbx)
      replace HF := Lib.hid (HF.out.below hbx)
      replace HAa := Lib.hid (HAa.out.below hbx)
      replace HK := Lib.hid (HK.out.below hbx)
      clear hbx
      have hnd : ∀ y, node 20 t2 [a, y] = .mk ⟨20, t2.2, [], 0, [], []⟩ [a, y] [] := fun _ => rfl
      simp only [hnd] at HR
      clear hnd
      unfold tokVal tokAgg
      go_upto_region 4 with fail
      generalize hb0 : W3.heap.size = b0 at *
      clear hb0
      generalize hb1 : W1.heap.size = b1 at *
      clear hb1
      generalize (W3.alloc (tokObj t2)) = w3 at *
      have HKd := Lib.hid (HK.out.below (drew_below _))
      obtain ⟨k0, k1, k2, k3, _⟩ := TokBox.cells (HT.out); have kl := (HT.out).lt
      have n0 : ¬ b0 = w.heap.size := by have := HTZ.out; omega
      have m0 : ¬ w.heap.size = b0 := by have := HTZ.out; omega
      obtain ⟨f0, f1, f2, f3, f4, f5, f6, f7, _⟩ := Box8.cells (HF.out); have fl := (HF.out).lt
      have n1 : ¬ b1 = w.heap.size := by have := HFZ.out; omega
      have m1 : ¬ w.heap.size = b1 := by have := HFZ.out; omega
      cases hr : run f .seq S2 with
      | out =>
        rw [hr] at HR
        exact absurd HR.out HN.out
      | bad R9 =>
        rw [hr] at HR
        have HSC : Hid (∀ W, PAt W p S2 → Calls Tryd.prog 50 #[ptrV p] W (Told (.bad R9) W p)) := Lib.hid (fun W h => by
          have := HHS.out S2 W h (by rw [hr]; exact fun h => by cases h)
          rwa [hr] at this)
        clear hr
        go_region_dies
        all_goals
          refine (HSC.out _ HKd.out.at_).mono ?_
          rintro e w8 ⟨t8, S8, rfl, rfl, hg⟩
          have HG := Lib.hid (grown_trans HKd.out.grown hg)
          exact ⟨rfl, by rw [HR.out]; exact ⟨t8, S8, rfl, rfl, HG.out⟩⟩
      | ok b Ry =>
        rw [hr] at HR
        have HSC : Hid (∀ W, PAt W p S2 → Calls Tryd.prog 50 #[ptrV p] W (Told (.ok b Ry) W p)) := Lib.hid (fun W h => by
          have := HHS.out S2 W h (by rw [hr]; exact fun h => by cases h)
          rwa [hr] at this)
        clear hr
        go_region_held3 (fun W => W.cell? ⟨b0, 0, none⟩ = some (.int .i64 t2.1.kind) ∧ W.cell? ⟨b0, 1, none⟩ = some (.int .i64 (t2.2 : Nat)) ∧ W.cell? ⟨b0, 2, none⟩ = some (.string ⟨t2.1.text.toArray⟩) ∧ W.cell? ⟨b0, 3, none⟩ = some (.int .i64 t2.1.n) ∧ W.cell? ⟨b1, 0, none⟩ = some (.int .i64 a.hd.kind) ∧ W.cell? ⟨b1, 1, none⟩ = some (.int .i64 a.hd.pos) ∧ W.cell? ⟨b1, 2, none⟩ = some (.string ⟨a.hd.name.toArray⟩) ∧ W.cell? ⟨b1, 3, none⟩ = some (.int .i64 a.hd.n) ∧ W.cell? ⟨b1, 4, none⟩ = some (.string ⟨a.hd.s.toArray⟩) ∧ W.cell? ⟨b1, 5, none⟩ = some (.slice s1.la a.hd.labels.length s1.lc) ∧ W.cell? ⟨b1, 6, none⟩ = some (.slice s1.aa a.args.length s1.ac) ∧ W.cell? ⟨b1, 7, none⟩ = some (.slice s1.ra a.arms.length s1.rc)) (go_keep) (first | (go_at_call 50; refine (HSC.out _ HKd.out.at_).mono ?_; rintro e Wy ⟨sy, rfl, ha, hk⟩; have HAb : Hid (IsE Wy (fun g => w.heap.size < g) (exL b sy) b) := Lib.hid (ha.wide fun g hg => Nat.lt_of_lt_of_le (HX.out.below (drew_below _)).lt hg); replace HX := Lib.hid ((HX.out.below (drew_below _)).keep hk HPB.out); replace HF := Lib.hid ((HF.out.below (drew_below _)).keep hk HFP.out); replace HT := Lib.hid ((HT.out.below (drew_below _)).keep hk HTP.out); replace HAa := Lib.hid ((HAa.out.below (drew_below _)).keep hk (fun g hg => by have := HPB.out; omega)); replace HK := Lib.hid (HKd.out.trans hk); clear HKd; obtain ⟨k0, k1, k2, k3, _⟩ := TokBox.cells (HT.out); have kl := (HT.out).lt; obtain ⟨f0, f1, f2, f3, f4, f5, f6, f7, _⟩ := Box8.cells (HF.out); have fl := (HF.out).lt; clear ha hk; unfold exOf exV) | (go_at_call 59; refine (p_node 20 t2 _ _ _ _).mono ?_; rintro e Wz ⟨rfl, hb2⟩; have HNR := Lib.hid (node_row (L := [exL a s1, exL b sy]) (args := [a, b]) HK.out ⟨HAa.out, HAb.out, trivial⟩ HX.out.lt (by simp) ⟨20, t2.2, [], 0, [], []⟩ rfl hb2); replace HX := Lib.hid (HX.out.below HNR.out.2.2); replace HF := Lib.hid (HF.out.below HNR.out.2.2); replace HT := Lib.hid (HT.out.below HNR.out.2.2); obtain ⟨k0, k1, k2, k3, _⟩ := TokBox.cells (HT.out); have kl := (HT.out).lt; obtain ⟨f0, f1, f2, f3, f4, f5, f6, f7, _⟩ := Box8.cells (HF.out); have fl := (HF.out).lt; obtain ⟨x0, x1, x2, x3, x4, x5, x6, x7, xf⟩ := (Box8.cells HX.out); have y0 := xf 0; have y1 := xf 1; have y2 := xf 2; have y3 := xf 3; have y4 := xf 4; have y5 := xf 5; have y6 := xf 6; have y7 := xf 7; have hxl := HX.out.lt; clear xf; clear hb2; unfold exV))
        have HS := Lib.hid (ret_node HX.out HB0.out HLT.out ⟨HNR.out.1, HNR.out.2.1⟩ 2 rfl ⟨#[]⟩ rfl rfl)
        unfold set8 at HS
        go_wp2_with fail
        generalize World.setCell _ _ _ = w9 at *
        rw [HR.out]
        exact ret_expr Tryd.results50 rfl rfl (HS.out _ (Below.refl _ _))
    · rw [hy, if_neg (by decide)] at HR
      replace HX := Lib.hid (HX.out.below hb2)
      replace HF := Lib.hid (HF.out.below hb2)
      replace HAa := Lib.hid (HAa.out.below hb2)
      replace HK := Lib.hid (HK.out.below hb2)
      clear hb2 HAC
      obtain ⟨x0, x1, x2, x3, x4, x5, x6, x7, xf⟩ := (Box8.cells HX.out)
      have y0 := xf 0
      have y1 := xf 1
      have y2 := xf 2
      have y3 := xf 3
      have y4 := xf 4
      have y5 := xf 5
      have y6 := xf 6
      have y7 := xf 7
      have hxl := HX.out.lt
      clear xf
      obtain ⟨f0, f1, f2, f3, f4, f5, f6, f7, _⟩ := Box8.cells (HF.out); have fl := (HF.out).lt
      have HS := Lib.hid (ret_tree HX.out HB0.out HK.out HLT.out HAa.out rfl)
      unfold set8 at HS
      unfold tokAgg
      go_wp2_with fail
      generalize World.setCell _ _ _ = w9 at *
      rw [HR.out]
      exact ret_expr Tryd.results50 rfl rfl (HS.out _ (below_one' _))
set_option maxRecDepth 100000 in
set_option maxHeartbeats 4000000 in
theorem w_assign (f p : Nat) (hl : Says f (.level 0) 82 #[ptrV p, .int .i64 0] p) (hi : Says f .item 57 #[ptrV p] p) : Says (f + 1) .asg 69 #[ptrV p] p := by
  have HHL := Lib.hid hl
  clear hl
  have HHI := Lib.hid hi
  clear hi
  intro T w hp hne
  have HLT := Lib.hid hp.lt
  have HK := Lib.hid (Keep.start hp)
  have hbx := below_one' (w := w) zeroObj
  have HX : Hid (ZeroBox (w.alloc zeroObj) w.heap.size) := Lib.hid (ZeroBox.new w)
  replace HK := Lib.hid (HK.out.below hbx)
  clear hbx
  have HPB : Hid (p < w.heap.size) := Lib.hid (by have := HLT.out; omega)
  have HB0 : Hid (w.heap.size ≤ w.heap.size) := Lib.hid (by omega)
  have HR : Hid (run (f + 1) .asg T = exec (run f) (step .asg) T) := Lib.hid rfl
  have HN := Lib.hid hne
  obtain ⟨t0, S0, hT0⟩ := hp.row.cons
  generalize run (f + 1) .asg T = res at *
  subst hT0
  simp only [step, exec] at HR
  clear hp hne
  go_enter Tryd.func69, Tryd.ntmps69
  go_wp2_with fail
  cases hr : run f (.level 0) (t0 :: S0) with
  | out =>
    rw [hr] at HR
    exact absurd HR.out HN.out
  | bad R9 =>
    rw [hr] at HR
    refine (HHL.out (t0 :: S0) _ HK.out.at_ (by rw [hr]; exact fun h => by cases h)).mono ?_
    rw [hr]
    rintro e w8 ⟨t8, S8, rfl, rfl, hg⟩
    have HG := Lib.hid (grown_trans HK.out.grown hg)
    clear hg hr
    unfold faultV
    go_wp2_with fail
    exact ⟨rfl, by rw [HR.out]; exact ⟨t8, S8, rfl, rfl, HG.out⟩⟩
  | ok a R1 =>
    rw [hr] at HR
    refine (HHL.out (t0 :: S0) _ HK.out.at_ (by rw [hr]; exact fun h => by cases h)).mono ?_
    rw [hr]
    rintro e W1 ⟨s1, rfl, ha, hk⟩
    clear hr
    have HAa : Hid (IsE W1 (fun g => w.heap.size < g) (exL a s1) a) := Lib.hid (ha.wide fun g hg => Nat.lt_of_lt_of_le HX.out.lt hg)
    clear ha
    replace HX := Lib.hid (HX.out.keep hk HPB.out)
    replace HK := Lib.hid (HK.out.trans hk)
    clear hk
    have hbx := below_one' (w := W1) (exObj a s1)
    have HF := Lib.hid (ExBox.new W1 a s1)
    have HFP : Hid (p < W1.heap.size) := Lib.hid (by have := HPB.out; have := HX.out.lt; omega)
    have HFZ : Hid (w.heap.size < W1.heap.size) := Lib.hid HX.out.lt
    replace HX := Lib.hid (HX.out.below hbx)
    replace HAa := Lib.hid (HAa.out.below hbx)
    replace HK := Lib.hid (HK.out.below hbx)
    clear hbx
    obtain ⟨t2, S2, rfl⟩ := HK.out.at_.row.cons
    simp only [exec] at HR
    have HAC := Lib.hid (fun W b h hb => accept_lit p t2 S2 [sAssign] _ _ rfl rfl (by decide) W b h hb)
    unfold exOf exV
    go_wp2_with fail
    refine (HAC.out _ _ HK.out.at_ (by simp)).mono ?_
    rintro e W3 (⟨hy, rfl, hp2, hg2⟩ | ⟨hy, rfl, hb2⟩)
    · rw [hy, if_pos rfl] at HR
      have hk2 := Keep.mk hp2 hg2
      replace HX := Lib.hid (HX.out.keep hk2 HPB.out)
      replace HF := Lib.hid (HF.out.keep hk2 HFP.out)
      replace HAa := Lib.hid (HAa.out.keep hk2 (fun g hg => by have := HPB.out; omega))
      replace HK := Lib.hid (HK.out.trans hk2)
      clear hy hp2 hg2 hk2 HAC
      have hbx := below_one' (w := W3) (tokObj t2)
      have HT := Lib.hid (TkBox.new W3 t2)
      have HTP : Hid (p < W3.heap.size) := Lib.hid (by have := HPB.out; have := HX.out.lt; omega)
      have HTZ : Hid (w.heap.size < W3.heap.size) := Lib.hid HX.out.lt
      replace HX := Lib.hid (HX.out.below hbx)
      replace HF := Lib.hid (HF.out.below hbx)
      replace HAa := Lib.hid (HAa.out.below hbx)
      replace HK := Lib.hid (HK.out.below hbx)
      clear hbx
      have hnd : ∀ y, node 19 t2 [a, y] = .mk ⟨19, t2.2, [], opOf t2.1.text, [], []⟩ [a, y] [] := fun _ => rfl
      simp only [hnd] at HR
      clear hnd
      unfold tokVal tokAgg
      go_upto_region 4 with fail
      generalize hb0 : W3.heap.size = b0 at *
      clear hb0
      generalize hb1 : W1.heap.size = b1 at *
      clear hb1
      generalize (W3.alloc (tokObj t2)) = w3 at *
      have HKd := Lib.hid (HK.out.below (drew_below _))
      obtain ⟨k0, k1, k2, k3, _⟩ := TokBox.cells (HT.out); have kl := (HT.out).lt
      have n0 : ¬ b0 = w.heap.size := by have := HTZ.out; omega
      have m0 : ¬ w.heap.size = b0 := by have := HTZ.out; omega
      obtain ⟨f0, f1, f2, f3, f4, f5, f6, f7, _⟩ := Box8.cells (HF.out); have fl := (HF.out).lt
      have n1 : ¬ b1 = w.heap.size := by have := HFZ.out; omega
      have m1 : ¬ w.heap.size = b1 := by have := HFZ.out; omega
      cases hr : run f .item S2 with
      | out =>
        rw [hr] at HR
        exact absurd HR.out HN.out
      | bad R9 =>
        rw [hr] at HR
        have HSC : Hid (∀ W, PAt W p S2 → Calls Tryd.prog 57 #[ptrV p] W (Told (.bad R9) W p)) := Lib.hid (fun W h => by
          have := HHI.out S2 W h (by rw [hr]; exact fun h => by cases h)
          rwa [hr] at this)
        clear hr
        go_region_dies
        all_goals
          refine (HSC.out _ HKd.out.at_).mono ?_
          rintro e w8 ⟨t8, S8, rfl, rfl, hg⟩
          have HG := Lib.hid (grown_trans HKd.out.grown hg)
          exact ⟨rfl, by rw [HR.out]; exact ⟨t8, S8, rfl, rfl, HG.out⟩⟩
      | ok b Ry =>
        rw [hr] at HR
        have HSC : Hid (∀ W, PAt W p S2 → Calls Tryd.prog 57 #[ptrV p] W (Told (.ok b Ry) W p)) := Lib.hid (fun W h => by
          have := HHI.out S2 W h (by rw [hr]; exact fun h => by cases h)
          rwa [hr] at this)
        clear hr
        go_region_held3 (fun W => W.cell? ⟨b0, 0, none⟩ = some (.int .i64 t2.1.kind) ∧ W.cell? ⟨b0, 1, none⟩ = some (.int .i64 (t2.2 : Nat)) ∧ W.cell? ⟨b0, 2, none⟩ = some (.string ⟨t2.1.text.toArray⟩) ∧ W.cell? ⟨b0, 3, none⟩ = some (.int .i64 t2.1.n) ∧ W.cell? ⟨b1, 0, none⟩ = some (.int .i64 a.hd.kind) ∧ W.cell? ⟨b1, 1, none⟩ = some (.int .i64 a.hd.pos) ∧ W.cell? ⟨b1, 2, none⟩ = some (.string ⟨a.hd.name.toArray⟩) ∧ W.cell? ⟨b1, 3, none⟩ = some (.int .i64 a.hd.n) ∧ W.cell? ⟨b1, 4, none⟩ = some (.string ⟨a.hd.s.toArray⟩) ∧ W.cell? ⟨b1, 5, none⟩ = some (.slice s1.la a.hd.labels.length s1.lc) ∧ W.cell? ⟨b1, 6, none⟩ = some (.slice s1.aa a.args.length s1.ac) ∧ W.cell? ⟨b1, 7, none⟩ = some (.slice s1.ra a.arms.length s1.rc)) (go_keep) (first | (go_at_call 57; refine (HSC.out _ HKd.out.at_).mono ?_; rintro e Wy ⟨sy, rfl, ha, hk⟩; have HAb : Hid (IsE Wy (fun g => w.heap.size < g) (exL b sy) b) := Lib.hid (ha.wide fun g hg => Nat.lt_of_lt_of_le (HX.out.below (drew_below _)).lt hg); replace HX := Lib.hid ((HX.out.below (drew_below _)).keep hk HPB.out); replace HF := Lib.hid ((HF.out.below (drew_below _)).keep hk HFP.out); replace HT := Lib.hid ((HT.out.below (drew_below _)).keep hk HTP.out); replace HAa := Lib.hid ((HAa.out.below (drew_below _)).keep hk (fun g hg => by have := HPB.out; omega)); replace HK := Lib.hid (HKd.out.trans hk); clear HKd; obtain ⟨k0, k1, k2, k3, _⟩ := TokBox.cells (HT.out); have kl := (HT.out).lt; obtain ⟨f0, f1, f2, f3, f4, f5, f6, f7, _⟩ := Box8.cells (HF.out); have fl := (HF.out).lt; clear ha hk; unfold exOf exV) | (go_at_call 59; refine (p_node 19 t2 _ _ _ _).mono ?_; rintro e Wz ⟨rfl, hb2⟩; have HNR := Lib.hid (node_row (L := [exL a s1, exL b sy]) (args := [a, b]) HK.out ⟨HAa.out, HAb.out, trivial⟩ HX.out.lt (by simp) ⟨19, t2.2, [], opOf t2.1.text, [], []⟩ rfl hb2); replace HX := Lib.hid (HX.out.below HNR.out.2.2); replace HF := Lib.hid (HF.out.below HNR.out.2.2); replace HT := Lib.hid (HT.out.below HNR.out.2.2); obtain ⟨k0, k1, k2, k3, _⟩ := TokBox.cells (HT.out); have kl := (HT.out).lt; obtain ⟨f0, f1, f2, f3, f4, f5, f6, f7, _⟩ := Box8.cells (HF.out); have fl := (HF.out).lt; obtain ⟨x0, x1, x2, x3, x4, x5, x6, x7, xf⟩ := (Box8.cells HX.out); have y0 := xf 0; have y1 := xf 1; have y2 := xf 2; have y3 := xf 3; have y4 := xf 4; have y5 := xf 5; have y6 := xf 6; have y7 := xf 7; have hxl := HX.out.lt; clear xf; clear hb2; unfold exV))
        have HS := Lib.hid (ret_node HX.out HB0.out HLT.out ⟨HNR.out.1, HNR.out.2.1⟩ 2 rfl ⟨#[]⟩ rfl rfl)
        unfold set8 at HS
        go_wp2_with fail
        generalize World.setCell _ _ _ = w9 at *
        rw [HR.out]
        exact ret_expr Tryd.results69 rfl rfl (HS.out _ (Below.refl _ _))
    · rw [hy, if_neg (by decide)] at HR
      replace HX := Lib.hid (HX.out.below hb2)
      replace HF := Lib.hid (HF.out.below hb2)
      replace HAa := Lib.hid (HAa.out.below hb2)
      replace HK := Lib.hid (HK.out.below hb2)
      clear hb2 HAC
      obtain ⟨x0, x1, x2, x3, x4, x5, x6, x7, xf⟩ := (Box8.cells HX.out)
      have y0 := xf 0
      have y1 := xf 1
      have y2 := xf 2
      have y3 := xf 3
      have y4 := xf 4
      have y5 := xf 5
      have y6 := xf 6
      have y7 := xf 7
      have hxl := HX.out.lt
      clear xf
      obtain ⟨f0, f1, f2, f3, f4, f5, f6, f7, _⟩ := Box8.cells (HF.out); have fl := (HF.out).lt
      have HS := Lib.hid (ret_tree HX.out HB0.out HK.out HLT.out HAa.out rfl)
      unfold set8 at HS
      unfold tokAgg
      go_wp2_with fail
      generalize World.setCell _ _ _ = w9 at *
      rw [HR.out]
      exact ret_expr Tryd.results69 rfl rfl (HS.out _ (below_one' _))
end Go.Proofs.YtecpldnjpapalaaDoor
