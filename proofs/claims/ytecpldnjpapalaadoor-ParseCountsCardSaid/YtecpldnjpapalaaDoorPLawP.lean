/-
  The law ParsePlaces: the walk.
-/
import Derived.Test.YtecpldnjpapalaaDoorPBoth
import Derived.Test.YtecpldnjpapalaaDoorPRow
namespace Go.Proofs.YtecpldnjpapalaaDoor
open Go.RowKit
attribute [local go_sem] Oper.semAt_some
theorem partCells_at {L : List (Int × Nat)} {i : Nat} {t : Int × Nat} (h : L[i]? = some t) : (partCells L)[i * 2]? = some (.int .i64 t.1) ∧ (partCells L)[i * 2 + 1]? = some (.int .i64 (t.2 : Nat)) := by
  induction L generalizing i with
  | nil => simp at h
  | cons a L ih =>
    cases i with
    | zero =>
      obtain rfl := Option.some.inj h
      exact ⟨rfl, rfl⟩
    | succ i =>
      obtain ⟨h1, h2⟩ := ih (by simpa using h)
      have e : partCells (a :: L) = .int .i64 a.1 :: .int .i64 (a.2 : Nat) :: partCells L := rfl
      rw [e, show (i + 1) * 2 = i * 2 + 2 by omega]
      exact ⟨h1, h2⟩
theorem PartRow.at_ {B : Nat} {w : World} {v : Value} {L : List (Int × Nat)} (h : PartRow B w v L) : ∃ A c, v = .slice A L.length c ∧ ∀ (W : World) (i : Nat) (t : Int × Nat), L[i]? = some t → Below w.heap.size w W → ∃ g, A = some ⟨g, 0, none⟩ ∧ g < W.heap.size ∧ W.cell? ⟨g, i * 2, none⟩ = some (.int .i64 t.1) ∧ W.cell? ⟨g, i * 2 + 1, none⟩ = some (.int .i64 (t.2 : Nat)) := by
  have h0 := h
  rcases h.2 with ⟨h1, h2⟩ | ⟨g, cap, cur, rfl, hb, hg, hc, _⟩
  · refine ⟨none, 0, by rw [h1, h2], fun W i t ht _ => ?_⟩
    have := (List.getElem?_eq_some_iff.1 ht).1
    omega
  · refine ⟨_, cap, rfl, fun W i t ht hbw => ⟨g, rfl, Nat.lt_of_lt_of_le (box_lt hg) hbw.size, ?_⟩⟩
    have hi := (List.getElem?_eq_some_iff.1 ht).1
    obtain ⟨k1, k2⟩ := partCells_at ht
    have hj : ∀ j, j < L.length * 2 → W.cell? ⟨g, j, none⟩ = (partCells L)[j]? := fun j hj => (hbw.cell (p := ⟨g, j, none⟩) (box_lt hg)).trans (World.ownsRow.cellAt h0 j hj)
    exact ⟨(hj _ (by omega)).trans k1, (hj _ (by omega)).trans k2⟩
/-- Is that a token's place? -/
def atTok (q : Int) (t : Tok) : Bool := ((t.2 : Nat) : Int) == q && t.1.kind != 0
theorem places_rel (l : List UInt8) : ((ParseV l).err ≠ 0 ∧ (ParseV l).tree = z0) ∨ ((ParseV l).err = 0 ∧ ∃ X, lexGo 0 0 l = .ok X ∧ l.length ≤ 4096 ∧ ((ParseV l).tree.parts 1).length ≤ 3 * (X.length + 1) ∧ ((ParseV l).tree.parts 1).length ≤ 4096 ∧ ∀ t ∈ (ParseV l).tree.parts 1, (X ++ [endT l.length]).any (atTok t.1) = true ∧ t.2 ≤ 200) := by
  rcases parseV_form l with ⟨e, q', h1, h2⟩ | ⟨X, hX, hl, hV, ⟨z, hz, h2⟩ | ⟨A, t, B, hT, hv, h2⟩⟩
  · left
    rw [h2]
    refine ⟨?_, rfl⟩
    show e ≠ 0
    rcases lexV_form l with ⟨Y, h3, _⟩ | ⟨h3, _⟩ | ⟨e', q, h3, _, _, h4, _⟩
    · rw [h1] at h3; cases h3
    · rw [h1] at h3; cases h3; decide
    · rw [h1] at h3; cases h3; omega
  · by_cases hm : 4096 < (z.parts 1).length
    · left
      rw [h2]
      unfold treeV
      rw [if_pos hm]
      exact ⟨(by decide : (3 : Int) ≠ 0), rfl⟩
    · cases hd : deepV 200 z with
      | some q =>
        left
        rw [h2]
        unfold treeV
        rw [if_neg hm, hd]
        exact ⟨(by decide : (22 : Int) ≠ 0), rfl⟩
      | none =>
        right
        have h3 : treeV z = .ok z := by
          unfold treeV
          rw [if_neg hm, hd]
        rw [h2, h3]
        refine ⟨rfl, X, hX, hl, ?_, by show (z.parts 1).length ≤ 4096; omega, fun t ht => ⟨?_, ?_⟩⟩
        · have h4 := tokV_size hz
          simp only [List.length_append, List.length_singleton] at h4
          show (z.parts 1).length ≤ _
          omega
        · obtain ⟨u, hu, h5, h6⟩ := tokV_places hz t ht
          rw [List.any_eq_true]
          refine ⟨u, hu, ?_⟩
          unfold atTok
          rw [h5, Bool.and_eq_true, beq_iff_eq, bne_iff_ne]
          exact ⟨rfl, h6⟩
        · have h5 : (z.parts 1).find? (fun t => decide ((200 : Int) < (t.2 : Int))) = none := by
            unfold deepV at hd
            cases hf : (z.parts 1).find? fun t => decide ((200 : Int) < (t.2 : Int)) with
            | none => rfl
            | some a => rw [hf] at hd; cases hd
          have h6 := List.find?_eq_none.1 h5 t ht
          simp only [decide_eq_true_eq] at h6
          omega
  · left
    rw [h2]
    exact ⟨(by decide : (21 : Int) ≠ 0), rfl⟩
theorem any_step {T : List Tok} {q : Int} {k : Nat} {t : Tok} (h : T[k]? = some t) : (T.take (k + 1)).any (atTok q) = ((T.take k).any (atTok q) || atTok q t) := by
  obtain ⟨hi, rfl⟩ := List.getElem?_eq_some_iff.1 h
  rw [List.take_succ_eq_append_getElem hi, List.any_append, List.any_cons, List.any_nil, Bool.or_false]
set_option maxRecDepth 100000 in
set_option maxHeartbeats 4000000 in
theorem law_Places (s : ByteArray) (w : World) (hy : Ready w) (_hs : s.size ≤ 140737488355328) : Calls Tryd.prog 7 #[.string s] w (YesMade true w) := by
  have HY := Lib.hid hy
  clear hy
  have HPR := Lib.hid (places_rel s.data.toList)
  go_enter Tryd.func7, Tryd.ntmps7
  go_wp2_with fail
  refine (awake6_any _ HY.out).mono ?_
  rintro e w1 ⟨rfl, hb1⟩
  have HB1 := Lib.hid hb1
  replace HY := Lib.hid (HY.out.below hb1)
  clear hb1
  go_wp2_with fail
  refine (p_parse_t s _ HY.out).mono ?_
  rintro e w2 ⟨hb2, s1, rfl, hi⟩
  have HB2 := Lib.hid (HB1.out.trans (hb2.mono HB1.out.size))
  replace HY := Lib.hid (HY.out.below hb2)
  have HI := Lib.hid hi
  clear hb2 hi HB1
  generalize ParseV s.data.toList = r1 at *
  unfold exOf exV
  go_upto_region 4 with fail
  all_goals
    obtain ⟨W2, hW2⟩ : ∃ W, w2.alloc (exObj r1.tree s1) = W := ⟨_, rfl⟩
    have hbx := below_one' (w := w2) (exObj r1.tree s1)
    have HX : Hid (InBox W2 w2.heap.size r1.tree s1) := Lib.hid (by rw [← hW2]; exact InBox.new HI.out)
    rw [hW2] at hbx
    have HB3 := Lib.hid (HB2.out.trans (hbx.mono HB2.out.size))
    replace HY := Lib.hid (HY.out.below hbx)
    unfold exObj at hW2
    try rw [hW2]
    clear hW2 hbx HB2 HI
    generalize w2.heap.size = bx at *
    go_wp2_with fail
    refine (lex_out s _ HY.out.syms).mono ?_
    rintro e w3 ⟨va, ea, qa, rfl, hb3, ho⟩
    have HB4 := Lib.hid (HB3.out.trans (hb3.mono HB3.out.size))
    have HX4 := Lib.hid (HX.out.below hb3)
    have HO := Lib.hid ho
    clear hb3 ho HB3 HX HY
    by_cases he : r1.err = 0
    · obtain ⟨_, X, hX, hl4, hn1, hn2, hall⟩ := HPR.out.resolve_left (fun h => h.1 he)
      rcases HO.out with ⟨_, _, _, Y, hY, hrow⟩ | ⟨_, ⟨_, _, h9⟩ | ⟨_, _, _, h9⟩⟩
      rotate_left
      · exfalso; omega
      · rw [hX] at h9; cases h9
      rw [hX] at hY
      obtain rfl := LR.ok.inj hY
      have e1 : (r1.err != 0) = false := by rw [bne_eq_false_iff_eq]; exact he
      obtain ⟨Ax, cx, rfl, hvx⟩ := hrow.at_
      have HVX := Lib.hid hvx
      have hl1 : (X ++ [((⟨0, [], 0⟩ : TK), s.data.toList.length)]).length = X.length + 1 := by simp
      have hnx := lexGo_len 0 _ X hX
      have HALL := Lib.hid hall
      have HGT := Lib.hid (fun (i : Nat) (h : i < (X ++ [((⟨0, [], 0⟩ : TK), s.data.toList.length)]).length) => (show ∃ t : Tok, (X ++ [((⟨0, [], 0⟩ : TK), s.data.toList.length)])[i]? = some t from ⟨_, List.getElem?_eq_getElem h⟩))
      have HTA := Lib.hid (fun q => congrArg (fun l : List Tok => l.any (atTok q)) (List.take_of_length_le (l := X ++ [((⟨0, [], 0⟩ : TK), s.data.toList.length)]) (i := X.length + 1) (by rw [hl1]; exact Nat.le_refl _)))
      have HTR := Lib.hid HX4.out.tree
      have HC : Hid (Calls Tryd.prog 15 #[exOf r1.tree s1, .int .i64 1, .int .i64 8192] w3 (PartsMade (r1.tree.parts 1) w3)) := Lib.hid (by
        have h9 := r_parts _ r1.tree s1 w3 1 8192 (Nat.le_refl _) (by omega) HX4.out.tree
        rwa [List.take_of_length_le (by omega)] at h9)
      have HCN : Hid (∀ W, Below w3.heap.size w3 W → Calls Tryd.prog 17 #[exOf r1.tree s1, .int .i64 8192] W (fun e w' => e = .returned (.int .i64 ((r1.tree.parts 1).length : Nat)) ∧ Below W.heap.size W w')) := Lib.hid (fun W hb => by
        have h9 := p_count r1.tree s1 8192 W (HX4.out.below hb).tree (by omega) (by decide) (by decide)
        have h8 : countV (r1.tree.parts 1).length 8192 = ((r1.tree.parts 1).length : Int) := by unfold countV; rw [if_neg (by decide)]; omega
        rwa [h8] at h9)
      have HGP := Lib.hid (fun (i : Nat) (h : i < (r1.tree.parts 1).length) => (show ∃ t, (r1.tree.parts 1)[i]? = some t from ⟨_, List.getElem?_eq_getElem h⟩))
      rw [hl1] at HGT
      rw [hl1]

      clear hvx hrow hX hall HPR HO he hl1 hl4
      generalize X ++ [((⟨0, [], 0⟩ : TK), s.data.toList.length)] = TX at *
      generalize X.length = nx at *
      generalize r1.tree.parts 1 = P at *
      obtain ⟨f0, f1, f2, f3, f4, f5, f6, f7, _⟩ := Box8.cells HX4.out.box
      have fl := HX4.out.box.lt
      unfold exOf exV at HC HCN
      go_upto_region 7 with fail
      clear e1
      go_wp2_with fail
      refine HC.out.mono ?_
      rintro e w4 ⟨vp, rfl, hb4, hr4⟩
      have HB5 := Lib.hid (HB4.out.trans (hb4.mono HB4.out.size))
      have HX5 := Lib.hid (HX4.out.below hb4)
      replace HVX := Lib.hid (fun (W : World) (i : Nat) (t : Tok) (ht : TX[i]? = some t) (hb : Below w4.heap.size w4 W) => HVX.out W i t ht (hb4.trans (hb.mono hb4.size)))
      replace HCN := Lib.hid (HCN.out w4 hb4)
      obtain ⟨Ap, cp, rfl, hvp⟩ := hr4.at_
      have HVP := Lib.hid hvp
      clear hb4 hr4 hvp HB4 HX4 HC f0 f1 f2 f3 f4 f5 f6 f7 fl HTR
      obtain ⟨f0, f1, f2, f3, f4, f5, f6, f7, _⟩ := Box8.cells HX5.out.box
      have fl := HX5.out.box.lt
      generalize hnp : P.length = np at *
      have E1 : IntKind.i64.wrap (3 * ((nx : Int) + 1)) = 3 * ((nx : Int) + 1) := by rw [IntKind.wrap_i64]; have hls : s.data.toList.length = s.size := rfl; omega
      have g1 : decide (3 * ((nx : Int) + 1) < (np : Int)) = false := decide_eq_false (by omega)
      have g2 : ((np : Int) != (np : Int)) = false := by simp
      have hnx5 : nx ≤ 140737488355328 := by have hls : s.data.toList.length = s.size := rfl; omega
      clear hnx hnp
      go_wp2_with fail
      refine HCN.out.mono ?_
      rintro e w5 ⟨rfl, hb5⟩
      have HB6 := Lib.hid (HB5.out.trans (hb5.mono HB5.out.size))
      replace HVX := Lib.hid (fun (W : World) (i : Nat) (t : Tok) (ht : TX[i]? = some t) (hb : Below w5.heap.size w5 W) => HVX.out W i t ht (hb5.trans (hb.mono hb5.size)))
      replace HVP := Lib.hid (fun (W : World) (i : Nat) (t : Int × Nat) (ht : P[i]? = some t) (hb : Below w5.heap.size w5 W) => HVP.out W i t ht (hb5.trans (hb.mono hb5.size)))
      clear hb5 HB5 HX5 HCN f0 f1 f2 f3 f4 f5 f6 f7 fl
      go_upto_region 10 with fail
      clear g1 g2 E1
      have HZ := Lib.hid (Below.refl w5.heap.size w5)
      go_wp2_with fail
      go_loopw [55] (fun vi wr => ∃ i : Nat, i ≤ np ∧ vi = .int .i64 i ∧ Hid (Below w5.heap.size w5 wr)) (fun vi _ => np - (intOf vi).toNat)
      case atStart => exact ⟨0, Nat.zero_le _, by go_num, HZ⟩
      case round =>
        clear HZ
        obtain ⟨i, hi, rfl, HV⟩ := hrel
        by_cases hi2 : i < np
        · obtain ⟨t, ht⟩ := HGP.out i hi2
          have HT := Lib.hid ht
          have h2 : decide ((i : Int) < (np : Int)) = true := decide_eq_true (by omega)
          have h3 : (i : Int) < (np : Int) := by omega
          have h4 : (0 : Int) ≤ (i : Int) := by omega
          have HTT := Lib.hid (HALL.out t (List.mem_of_getElem? ht))
          have E5 : IntKind.i64.wrap ((i : Int) + 1) = (i : Int) + 1 := by rw [IntKind.wrap_i64]; omega
          clear ht
          obtain ⟨W6, rfl⟩ : ∃ W, W = wr := ⟨_, rfl⟩
          have HZ2 := Lib.hid (Below.refl W6.heap.size W6)
          go_wp2_with fail
          go_loopw [60, 11] (fun vk vf w8 => ∃ k : Nat, k ≤ nx + 1 ∧ vk = .int .i64 k ∧ vf = .bool ((TX.take k).any (atTok t.1)) ∧ Hid (Below W6.heap.size W6 w8)) (fun vk _ _ => (nx + 1) - (intOf vk).toNat)
          case atStart => exact ⟨0, Nat.zero_le _, by go_num, rfl, HZ2⟩
          case round =>
            clear HZ2 h2
            obtain ⟨k, hk, rfl, rfl, HU⟩ := hrel
            obtain ⟨gy, rfl, yl, y0, y1⟩ := HVP.out wr i t HT.out (HV.out.trans (HU.out.mono HV.out.size))
            by_cases hk2 : k < nx + 1
            · obtain ⟨u, hu⟩ := HGT.out k hk2
              have k2 : decide ((k : Int) < (nx : Int) + 1) = true := decide_eq_true (by omega)
              have k3 : (k : Int) < (nx : Int) + 1 := by omega
              have k4 : (0 : Int) ≤ (k : Int) := by omega
              have E6 : IntKind.i64.wrap ((k : Int) + 1) = (k : Int) + 1 := by rw [IntKind.wrap_i64]; omega
              have HST : Hid ((TX.take (k + 1)).any (atTok t.1) = ((TX.take k).any (atTok t.1) || ((((u.2 : Nat) : Int) == t.1) && (u.1.kind != 0)))) := Lib.hid (any_step (q := t.1) hu)
              obtain ⟨gx, rfl, _, _, xl, x0, x1, x2, x3⟩ := HVX.out wr k u hu (HV.out.trans (HU.out.mono HV.out.size))
              clear hu x2 x3 y1
              generalize (TX.take k).any (atTok t.1) = fb at *
              cases fb with
              | true =>
                go_upto_region 17 with fail
                clear k2
                go_quiet (fail)
                have HUN := Lib.hid (HU.out.trans ((drewN_below wr nq).mono HU.out.size))
                clear x0 x1 y0 yl xl
                go_wp2_with fail
                go_roundw
                case rel => exact ⟨k + 1, by omega, by go_num, by rw [HST.out]; rfl, HUN⟩
                case measure => simp [intOf]; omega
              | false =>
                cases hb1 : (((u.2 : Nat) : Int) == t.1) with
                | false =>
                  rw [hb1] at HST
                  go_upto_region 17 with fail
                  clear k2
                  go_quiet (fail)
                  have HUN := Lib.hid (HU.out.trans ((drewN_below wr nq).mono HU.out.size))
                  clear x0 x1 y0 yl xl hb1
                  go_wp2_with fail
                  go_roundw
                  case rel => exact ⟨k + 1, by omega, by go_num, by rw [HST.out]; rfl, HUN⟩
                  case measure => simp [intOf]; omega
                | true =>
                  rw [hb1] at HST
                  cases hb2 : (u.1.kind != 0) with
                  | false =>
                    rw [hb2] at HST
                    go_upto_region 17 with fail
                    clear k2
                    go_quiet (fail)
                    have HUN := Lib.hid (HU.out.trans ((drewN_below wr nq).mono HU.out.size))
                    clear x0 x1 y0 yl xl hb1 hb2
                    go_wp2_with fail
                    go_roundw
                    case rel => exact ⟨k + 1, by omega, by go_num, by rw [HST.out]; rfl, HUN⟩
                    case measure => simp [intOf]; omega
                  | true =>
                    rw [hb2] at HST
                    go_upto_region 17 with fail
                    clear k2
                    go_quiet (fail)
                    have HUN := Lib.hid (HU.out.trans ((drewN_below wr nq).mono HU.out.size))
                    clear x0 x1 y0 yl xl hb1 hb2
                    go_wp2_with fail
                    go_roundw
                    case rel => exact ⟨k + 1, by omega, by go_num, by rw [HST.out]; rfl, HUN⟩
                    case measure => simp [intOf]; omega
            · obtain rfl : k = nx + 1 := by omega
              have k2 : decide ((((nx + 1 : Nat) : Int)) < (nx : Int) + 1) = false := decide_eq_false (by omega)
              have k3 : ¬ ((nx + 1 : Nat) : Int) < (nx : Int) + 1 := by omega
              rw [HTA.out, HTT.out.1]
              have d1 : decide ((200 : Int) < ((t.2 : Nat) : Int)) = false := decide_eq_false (by have := HTT.out.2; omega)
              have d2 : decide (200 < t.2) = false := decide_eq_false (by have := HTT.out.2; omega)
              have HUN := Lib.hid (HV.out.trans (HU.out.mono HV.out.size))
              clear hk2 hk
              go_wp2_with fail
              go_roundw
              case rel => exact ⟨i + 1, by omega, by go_num, HUN⟩
              case measure => simp [intOf]; omega
        · have h2 : decide ((i : Int) < (np : Int)) = false := decide_eq_false (by omega)
          have HBN := Lib.hid (HB6.out.trans (HV.out.mono HB6.out.size))
          go_wp2_with fail
          go_ret
          exact ⟨rfl, HBN.out⟩
    · rcases HPR.out with ⟨_, hz⟩ | ⟨h9, _⟩
      · have e1 : (r1.err != 0) = true := by rw [bne_iff_ne]; exact he
        obtain ⟨f0, f1, f2, f3, f4, f5, f6, f7, _⟩ := Box8.cells HX4.out.box
        have fl := HX4.out.box.lt
        rw [hz] at f0 f6
        replace f0 : w3.cell? ⟨bx, 0, none⟩ = some (.int .i64 0) := f0
        replace f6 : w3.cell? ⟨bx, 6, none⟩ = some (.slice s1.aa ((0 : Nat) : Int).toNat s1.ac) := f6
        clear he hz HPR HO
        go_wp2_with fail
        all_goals
          go_ret
          exact ⟨rfl, HB4.out⟩
      · exact absurd h9 he
end Go.Proofs.YtecpldnjpapalaaDoor
