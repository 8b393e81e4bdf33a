/-
  The law ParseCounts: the walk.
-/
import Derived.Test.YtecpldnjpapalaaDoorPBoth
import Derived.Test.YtecpldnjpapalaaDoorPRow
import Derived.Test.YtecpldnjpapalaaDoorPLawP
namespace Go.Proofs.YtecpldnjpapalaaDoor
open Go.RowKit
attribute [local go_sem] Oper.semAt_some
/-- The place of the first part that is too deep. -/
def fnd (deep : Int) (L : List (Int × Nat)) : Option Int := (L.find? fun t => decide (deep < (t.2 : Int))).map (·.1)
theorem fnd_step {deep : Int} {L : List (Int × Nat)} {k : Nat} {t : Int × Nat} (h : L[k]? = some t) : fnd deep (L.take (k + 1)) = if (fnd deep (L.take k)).isSome then fnd deep (L.take k) else if deep < (t.2 : Int) then some t.1 else none := by
  obtain ⟨hi, rfl⟩ := List.getElem?_eq_some_iff.1 h
  unfold fnd
  rw [List.take_succ_eq_append_getElem hi, List.find?_append]
  cases (L.take k).find? fun t => decide (deep < (t.2 : Int)) with
  | some a => rfl
  | none =>
    by_cases hd : deep < (L[k].2 : Int)
    · simp [List.find?, hd]
    · simp [List.find?, hd]
set_option maxRecDepth 100000 in
set_option maxHeartbeats 4000000 in
theorem law_Counts (x : Nd) (s : Sl) (most deep : Int) (w : World) (hy : Ready w) (hx : IsE w (fun _ => True) (exL x s) x) (hm : -9223372036854775808 ≤ most ∧ most ≤ 9223372036854775807) : Calls Tryd.prog 4 #[exOf x s, .int .i64 most, .int .i64 deep] w (YesMade true w) := by
  have HY := Lib.hid hy
  have HX := Lib.hid hx
  have HM := Lib.hid hm
  clear hy hx hm
  unfold exOf exV
  go_enter Tryd.func4, Tryd.ntmps4
  go_upto_region 1 with fail
  obtain ⟨W0, hW0⟩ : ∃ W, w.alloc (exObj x s) = W := ⟨_, rfl⟩
  have hb0 : Below w.heap.size w W0 := by rw [← hW0]; exact below_one' _
  have HB0 := Lib.hid hb0
  replace HX : Hid (InBox W0 w.heap.size x s) := Lib.hid (by rw [← hW0]; exact InBox.new HX.out)
  unfold exObj at hW0
  rw [hW0]
  replace HY := Lib.hid (HY.out.below hb0)
  clear hW0 hb0
  generalize hbx : w.heap.size = bx at HX ⊢
  clear hbx
  go_wp2_with fail
  refine (awake6_any _ HY.out).mono ?_
  rintro e w1 ⟨rfl, hb1⟩
  replace HX := Lib.hid (HX.out.below hb1)
  have HB1 := Lib.hid (HB0.out.trans (hb1.mono HB0.out.size))
  clear hb1 HB0 HY
  by_cases hb : 8192 < most
  · have g1 : decide ((8192 : Int) < most) = true := decide_eq_true hb
    go_wp2_with fail
    go_ret
    exact ⟨rfl, HB1.out⟩
  have g1 : decide ((8192 : Int) < most) = false := decide_eq_false hb
  have HC : Hid (Calls Tryd.prog 15 #[exOf x s, .int .i64 1, .int .i64 8193] w1 (PartsMade ((x.parts 1).take 8193) w1)) := Lib.hid (r_parts _ x s w1 1 8193 (Nat.le_refl _) (by omega) HX.out.tree)
  obtain ⟨f0, f1, f2, f3, f4, f5, f6, f7, _⟩ := Box8.cells HX.out.box
  have fl := HX.out.box.lt
  unfold exOf exV at HC
  go_wp2_with fail
  refine HC.out.mono ?_
  rintro e w2 ⟨vp, rfl, hb2, hr2⟩
  replace HX := Lib.hid (HX.out.below hb2)
  have HB2 := Lib.hid (HB1.out.trans (hb2.mono HB1.out.size))
  obtain ⟨Ap, cp, rfl, hvp⟩ := hr2.at_
  have HVP := Lib.hid hvp
  clear hb2 hr2 hvp HB1 HC f0 f1 f2 f3 f4 f5 f6 f7 fl
  by_cases hbig : 8192 < (x.parts 1).length
  · have hl : ((x.parts 1).take 8193).length = 8193 := by rw [List.length_take]; omega
    rw [hl]
    clear hbig
    go_wp2_with fail
    go_ret
    exact ⟨rfl, HB2.out⟩
  rw [List.take_of_length_le (l := x.parts 1) (by omega)] at HVP ⊢
  have HCD : Hid (∀ W, Below w2.heap.size w2 W → Calls Tryd.prog 16 #[exOf x s, .int .i64 deep] W (fun e w' => e = .returned (.tuple #[.int .i64 ((fnd deep (x.parts 1)).getD 0), .bool (fnd deep (x.parts 1)).isSome]) ∧ Below W.heap.size W w')) := Lib.hid (fun W h => p_deep x s deep W (HX.out.below h).tree (by omega))
  have HCN : Hid (∀ W, Below w2.heap.size w2 W → Calls Tryd.prog 17 #[exOf x s, .int .i64 most] W (fun e w' => e = .returned (.int .i64 (countV (x.parts 1).length most)) ∧ Below W.heap.size W w')) := Lib.hid (fun W h => p_count x s most W (HX.out.below h).tree (by omega) HM.out.1 HM.out.2)
  have HGP := Lib.hid (fun (i : Nat) (h : i < (x.parts 1).length) => (show ∃ t, (x.parts 1)[i]? = some t from ⟨_, List.getElem?_eq_getElem h⟩))
  have HFS := Lib.hid (fun (k : Nat) (t : Int × Nat) (h : (x.parts 1)[k]? = some t) => fnd_step (deep := deep) h)
  have HFE := Lib.hid (congrArg (fnd deep) (List.take_of_length_le (l := x.parts 1) (Nat.le_refl _)))
  have hn : (x.parts 1).length ≤ 8192 := by omega
  clear hbig
  generalize x.parts 1 = P at *
  generalize P.length = np at *
  obtain ⟨hm1, hm2⟩ := HM.out
  have E1 : IntKind.i64.wrap (most + 1) = most + 1 := by rw [IntKind.wrap_i64]; omega
  have g2 : decide ((8192 : Int) < (np : Int)) = false := decide_eq_false (by omega)
  have HZ := Lib.hid (Below.refl w2.heap.size w2)
  go_upto_region 9 with fail
  obtain ⟨mv, hmv⟩ : ∃ m, min (np : Int) (most + 1) = m := ⟨_, rfl⟩
  rw [hmv]
  by_cases hneg : most < 0
  · have g3 : decide (most < (0 : Int)) = true := decide_eq_true hneg
    have hcv : countV np most = 0 := by unfold countV; rw [if_pos hneg]
    rw [hcv] at HCN
    clear hcv hmv
    go_upto_region 13 with fail
    clear g3 hneg g1 g2 E1 hb hm1 hm2 HM
    go_wp2_with fail
    go_loopw [9, 10, 32] (fun va vi vk wr => ∃ k : Nat, k ≤ np ∧ vk = .int .i64 k ∧ va = .int .i64 ((fnd deep (P.take k)).getD 0) ∧ vi = .bool (fnd deep (P.take k)).isSome ∧ Hid (Below w2.heap.size w2 wr)) (fun _ _ vk _ => np - (intOf vk).toNat)
    case atStart => exact ⟨0, Nat.zero_le _, by go_num, rfl, rfl, HZ⟩
    case round =>
      clear HZ
      obtain ⟨k, hk, rfl, rfl, rfl, HV⟩ := hrel
      by_cases hk2 : k < np
      · obtain ⟨t, ht⟩ := HGP.out k hk2
        have h2 : decide ((k : Int) < (np : Int)) = true := decide_eq_true (by omega)
        have h3 : (k : Int) < (np : Int) := by omega
        have h4 : (0 : Int) ≤ (k : Int) := by omega
        have E5 : IntKind.i64.wrap ((k : Int) + 1) = (k : Int) + 1 := by rw [IntKind.wrap_i64]; omega
        have HF := Lib.hid (HFS.out k t ht)
        obtain ⟨gy, rfl, yl, y0, y1⟩ := HVP.out wr k t ht HV.out
        clear ht
        obtain ⟨fv, hfv⟩ : ∃ v, fnd deep (P.take k) = v := ⟨_, rfl⟩
        rw [hfv] at HF ⊢
        clear hfv
        by_cases hd : deep < (t.2 : Int)
        · have d1 : decide (deep < ((t.2 : Nat) : Int)) = true := decide_eq_true hd
          rw [if_pos hd] at HF
          clear hd
          cases fv with
          | some q =>
            simp only [Option.getD_some, Option.isSome_some, if_true] at HF ⊢
            go_wp2_with fail
            go_roundw
            case rel => exact ⟨k + 1, by omega, by go_num, by rw [HF.out]; rfl, by rw [HF.out]; rfl, HV⟩
            case measure => simp [intOf]; omega
          | none =>
            simp only [Option.getD_none, Option.isSome_none, if_false, Bool.false_eq_true] at HF ⊢
            go_wp2_with fail
            go_roundw
            case rel => exact ⟨k + 1, by omega, by go_num, by rw [HF.out]; rfl, by rw [HF.out]; rfl, HV⟩
            case measure => simp [intOf]; omega
        · have d1 : decide (deep < ((t.2 : Nat) : Int)) = false := decide_eq_false hd
          rw [if_neg hd] at HF
          have d2 : ¬ deep < ((t.2 : Nat) : Int) := hd
          have HFF : Hid (fnd deep (P.take (k + 1)) = fv) := Lib.hid (by rw [HF.out]; cases fv <;> rfl)
          clear hd HF
          go_wp2_with fail
          go_roundw
          case rel => exact ⟨k + 1, by omega, by go_num, by rw [HFF.out], by rw [HFF.out], HV⟩
          case measure => simp [intOf]; omega
      · obtain rfl : k = np := by omega
        have h2 : decide ((k : Int) < (k : Int)) = false := decide_eq_false (by omega)
        have h3 : ¬ (k : Int) < (k : Int) := by omega
        rw [HFE.out]
        have HBN := Lib.hid (HB2.out.trans (HV.out.mono HB2.out.size))
        have HD := Lib.hid (HCD.out wr HV.out)
        have HN := Lib.hid (fun W (h : Below wr.heap.size wr W) => HCN.out W (HV.out.trans (h.mono HV.out.size)))
        have HXw := Lib.hid (HX.out.below HV.out)
        clear HCD HCN HFE HFS HGP HVP HV hk hk2 hn HX HB2
        generalize fnd deep P = fv at *
        obtain ⟨f0, f1, f2, f3, f4, f5, f6, f7, _⟩ := Box8.cells HXw.out.box
        have fl := HXw.out.box.lt
        unfold exOf exV at HD HN
        go_wp2_with fail
        refine HD.out.mono ?_
        rintro e w4 ⟨rfl, hb4⟩
        have HX4 := Lib.hid (HXw.out.below hb4)
        have HN4 := Lib.hid (HN.out w4 hb4)
        have HB4 := Lib.hid (HBN.out.trans (hb4.mono HBN.out.size))
        clear hb4 HD HN HXw HBN f0 f1 f2 f3 f4 f5 f6 f7 fl h2 h3
        obtain ⟨f0, f1, f2, f3, f4, f5, f6, f7, _⟩ := Box8.cells HX4.out.box
        have fl := HX4.out.box.lt
        go_wp2_with fail
        refine HN4.out.mono ?_
        rintro e w5 ⟨rfl, hb5⟩
        have HB5 := Lib.hid (HB4.out.trans (hb5.mono HB4.out.size))
        clear hb5 HN4 HX4 HB4 f0 f1 f2 f3 f4 f5 f6 f7 fl
        cases fv with
        | some q =>
          simp only [Option.getD_some, Option.isSome_some]
          go_wp2_with fail
          go_ret
          exact ⟨by simp, HB5.out⟩
        | none =>
          simp only [Option.getD_none, Option.isSome_none]
          go_wp2_with fail
          go_ret
          exact ⟨by simp, HB5.out⟩
  · have g3 : decide (most < (0 : Int)) = false := decide_eq_false hneg
    have hcv : countV np most = mv := by unfold countV; rw [if_neg hneg, hmv]
    rw [hcv] at HCN
    clear hcv hmv
    go_upto_region 13 with fail
    clear g3 hneg g1 g2 E1 hb hm1 hm2 HM
    go_wp2_with fail
    go_loopw [9, 10, 32] (fun va vi vk wr => ∃ k : Nat, k ≤ np ∧ vk = .int .i64 k ∧ va = .int .i64 ((fnd deep (P.take k)).getD 0) ∧ vi = .bool (fnd deep (P.take k)).isSome ∧ Hid (Below w2.heap.size w2 wr)) (fun _ _ vk _ => np - (intOf vk).toNat)
    case atStart => exact ⟨0, Nat.zero_le _, by go_num, rfl, rfl, HZ⟩
    case round =>
      clear HZ
      obtain ⟨k, hk, rfl, rfl, rfl, HV⟩ := hrel
      by_cases hk2 : k < np
      · obtain ⟨t, ht⟩ := HGP.out k hk2
        have h2 : decide ((k : Int) < (np : Int)) = true := decide_eq_true (by omega)
        have h3 : (k : Int) < (np : Int) := by omega
        have h4 : (0 : Int) ≤ (k : Int) := by omega
        have E5 : IntKind.i64.wrap ((k : Int) + 1) = (k : Int) + 1 := by rw [IntKind.wrap_i64]; omega
        have HF := Lib.hid (HFS.out k t ht)
        obtain ⟨gy, rfl, yl, y0, y1⟩ := HVP.out wr k t ht HV.out
        clear ht
        obtain ⟨fv, hfv⟩ : ∃ v, fnd deep (P.take k) = v := ⟨_, rfl⟩
        rw [hfv] at HF ⊢
        clear hfv
        by_cases hd : deep < (t.2 : Int)
        · have d1 : decide (deep < ((t.2 : Nat) : Int)) = true := decide_eq_true hd
          rw [if_pos hd] at HF
          clear hd
          cases fv with
          | some q =>
            simp only [Option.getD_some, Option.isSome_some, if_true] at HF ⊢
            go_wp2_with fail
            go_roundw
            case rel => exact ⟨k + 1, by omega, by go_num, by rw [HF.out]; rfl, by rw [HF.out]; rfl, HV⟩
            case measure => simp [intOf]; omega
          | none =>
            simp only [Option.getD_none, Option.isSome_none, if_false, Bool.false_eq_true] at HF ⊢
            go_wp2_with fail
            go_roundw
            case rel => exact ⟨k + 1, by omega, by go_num, by rw [HF.out]; rfl, by rw [HF.out]; rfl, HV⟩
            case measure => simp [intOf]; omega
        · have d1 : decide (deep < ((t.2 : Nat) : Int)) = false := decide_eq_false hd
          rw [if_neg hd] at HF
          have d2 : ¬ deep < ((t.2 : Nat) : Int) := hd
          have HFF : Hid (fnd deep (P.take (k + 1)) = fv) := Lib.hid (by rw [HF.out]; cases fv <;> rfl)
          clear hd HF
          go_wp2_with fail
          go_roundw
          case rel => exact ⟨k + 1, by omega, by go_num, by rw [HFF.out], by rw [HFF.out], HV⟩
          case measure => simp [intOf]; omega
      · obtain rfl : k = np := by omega
        have h2 : decide ((k : Int) < (k : Int)) = false := decide_eq_false (by omega)
        have h3 : ¬ (k : Int) < (k : Int) := by omega
        rw [HFE.out]
        have HBN := Lib.hid (HB2.out.trans (HV.out.mono HB2.out.size))
        have HD := Lib.hid (HCD.out wr HV.out)
        have HN := Lib.hid (fun W (h : Below wr.heap.size wr W) => HCN.out W (HV.out.trans (h.mono HV.out.size)))
        have HXw := Lib.hid (HX.out.below HV.out)
        clear HCD HCN HFE HFS HGP HVP HV hk hk2 hn HX HB2
        generalize fnd deep P = fv at *
        obtain ⟨f0, f1, f2, f3, f4, f5, f6, f7, _⟩ := Box8.cells HXw.out.box
        have fl := HXw.out.box.lt
        unfold exOf exV at HD HN
        go_wp2_with fail
        refine HD.out.mono ?_
        rintro e w4 ⟨rfl, hb4⟩
        have HX4 := Lib.hid (HXw.out.below hb4)
        have HN4 := Lib.hid (HN.out w4 hb4)
        have HB4 := Lib.hid (HBN.out.trans (hb4.mono HBN.out.size))
        clear hb4 HD HN HXw HBN f0 f1 f2 f3 f4 f5 f6 f7 fl h2 h3
        obtain ⟨f0, f1, f2, f3, f4, f5, f6, f7, _⟩ := Box8.cells HX4.out.box
        have fl := HX4.out.box.lt
        go_wp2_with fail
        refine HN4.out.mono ?_
        rintro e w5 ⟨rfl, hb5⟩
        have HB5 := Lib.hid (HB4.out.trans (hb5.mono HB4.out.size))
        clear hb5 HN4 HX4 HB4 f0 f1 f2 f3 f4 f5 f6 f7 fl
        cases fv with
        | some q =>
          simp only [Option.getD_some, Option.isSome_some]
          go_wp2_with fail
          go_ret
          exact ⟨by simp, HB5.out⟩
        | none =>
          simp only [Option.getD_none, Option.isSome_none]
          go_wp2_with fail
          go_ret
          exact ⟨by simp, HB5.out⟩
end Go.Proofs.YtecpldnjpapalaaDoor
