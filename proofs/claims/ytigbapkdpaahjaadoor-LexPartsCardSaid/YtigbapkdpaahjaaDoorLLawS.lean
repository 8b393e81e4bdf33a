/-
  The walk of the law LexSplits: whatever the input, it returns true and leaves what was there as it was. Condition: the variable of the signs holds what its initialiser lays.
-/
import Derived.Test.YtigbapkdpaahjaaDoorLOut
import Derived.Deep.RegionWith
namespace Go.Proofs.YtigbapkdpaahjaaDoor
open Go.RowKit
def moved (d : Nat) (T : List (TK × Nat)) : List (TK × Nat) := T.map fun t => (t.1, t.2 + d)
theorem splits_v {a b : List UInt8} {X Y : List (TK × Nat)} (ha : lexGo 0 0 a = .ok X) (hb : lexGo 0 0 b = .ok Y) (hl : a.length + 1 + b.length ≤ 4096) : LexV (a ++ [32] ++ b) = .ok (X ++ moved (a.length + 1) (Y ++ [(⟨0, [], 0⟩, b.length)])) := by
  have h1 := lexGo_two b 0 a X ha
  rw [show 0 + a.length + 1 = 0 + (a.length + 1) by omega, lexGo_shift (a.length + 1) 0 b, hb] at h1
  rw [List.append_assoc]
  have hlen : (a ++ ([32] ++ b)).length = b.length + (a.length + 1) := by simp; omega
  rw [lexV_ok (l := a ++ ([32] ++ b)) (X := X ++ moved (a.length + 1) Y) h1 (by omega), hlen]
  unfold moved
  simp
theorem splits_len (nx ny : Nat) (h1 : nx ≤ 4096) (h2 : ny ≤ 4096) : ((nx : Int) + ((ny : Int) + 1) != wrap64 (wrap64 ((nx : Int) + 1 + ((ny : Int) + 1)) - 1)) = false ∧ wrap64 ((nx : Int) + 1 - 1) = (nx : Int) := by
  rw [bne_eq_false_iff_eq]
  unfold wrap64
  omega
theorem splits_x {X : List (TK × Nat)} (a : Nat) (U : List (TK × Nat)) (i : Nat) (h : i < X.length) : ∃ t : TK × Nat, (X ++ [((⟨0, [], 0⟩ : TK), a)])[i]? = some t ∧ (X ++ U)[i]? = some t :=
  ⟨X[i], by rw [List.getElem?_append_left h, List.getElem?_eq_getElem h], by rw [List.getElem?_append_left h, List.getElem?_eq_getElem h]⟩
theorem splits_y {X Y : List (TK × Nat)} (d : Nat) (i : Nat) (h : i < Y.length) : ∃ t : TK × Nat, Y[i]? = some t ∧ (X ++ moved d Y)[X.length + i]? = some (t.1, t.2 + d) := by
  refine ⟨Y[i], List.getElem?_eq_getElem h, ?_⟩
  rw [List.getElem?_append_right (by omega), Nat.add_sub_cancel_left]
  unfold moved
  rw [List.getElem?_map, List.getElem?_eq_getElem h]; rfl
theorem wrap_moved (a ta : Nat) (ha : a ≤ 4096) (hta : ta ≤ 4096) : wrap64 ((ta : Int) + ((a : Int) + 1)) = ((ta + (a + 1) : Nat) : Int) ∧ wrap64 ((a : Int) + 1) = (a : Int) + 1 := by unfold wrap64; omega
theorem wrap_index (nx ny j : Nat) (h1 : nx ≤ 4096) (h2 : ny ≤ 4096) (h3 : j < ny + 1) : wrap64 ((nx : Int) + (j : Int)) = (nx : Int) + (j : Int) ∧ IntKind.i64.wrap ((nx : Int) + (j : Int)) = (nx : Int) + (j : Int) ∧ IntKind.i64.wrap (j : Int) = (j : Int) ∧ (nx : Int) + (j : Int) < (nx : Int) + ((ny : Int) + 1) ∧ (0 : Int) ≤ (nx : Int) + (j : Int) ∧ IntKind.i64.wrap (nx : Int) = (nx : Int) ∧ (j : Int) < (ny : Int) + 1 ∧ (0 : Int) ≤ (j : Int) := by
  simp only [IntKind.wrap_i64]
  unfold wrap64
  omega
theorem splits_big {a b : List UInt8} (h : 4096 < a.length + 1 + b.length) : LexV (a ++ [32] ++ b) = .bad 4 0 := lexV_big (by simp; omega)
set_option maxRecDepth 100000 in
set_option maxHeartbeats 4000000 in
theorem law_Splits (a b : ByteArray) (w : World) (hy : Syms w) (ha : a.size ≤ 140737488355328) (hb : b.size ≤ 140737488355328) : Calls Tryd.prog 7 #[.string a, .string b] w (YesMade true w) := by
  have HY := Lib.hid hy
  clear hy
  go_enter Tryd.func7, Tryd.ntmps7
  go_wp2_with fail
  refine (awake5_any _ HY.out).mono ?_
  rintro e w1 ⟨rfl, hb1⟩
  have HB1 := Lib.hid hb1
  have HY1 := Lib.hid (HY.out.below hb1)
  clear hb1 HY
  go_wp2_with fail
  refine (lex_out a _ HY1.out).mono ?_
  rintro e w2 ⟨va, ea, qa, rfl, hb2, ho⟩
  have HB2 := Lib.hid hb2
  have HA := Lib.hid ho
  have HY2 := Lib.hid (HY1.out.below hb2)
  clear hb2 ho HY1
  go_wp2_with fail
  refine (lex_out b _ HY2.out).mono ?_
  rintro e w3 ⟨vb, eb, qb, rfl, hb3, ho⟩
  have HB3 := Lib.hid hb3
  have HB := Lib.hid ho
  have HY3 := Lib.hid (HY2.out.below hb3)
  clear hb3 ho HY2
  have n1 : ¬ 9223372036854775807 < a.size + 1 := by omega
  have n2 : ¬ 9223372036854775807 < a.size + 1 + b.size := by omega
  have HL := Lib.hid (lex_Lex (a ++ ⟨#[32]⟩ ++ b) w3 HY3.out)
  have hj : (a ++ ⟨#[32]⟩ ++ b).data.toList = a.data.toList ++ [32] ++ b.data.toList := by rw [joined, joined]
  rw [hj] at HL
  have hla : a.data.toList.length = a.size := rfl
  have hlb : b.data.toList.length = b.size := rfl
  have HLA := Lib.hid hla
  have HLB := Lib.hid hlb
  clear hj hla hlb
  go_wp2_with fail
  by_cases hok : ea = 0 ∧ eb = 0
  · obtain ⟨rfl, rfl⟩ := hok
    have hA := HA.out.resolve_right (fun h => by rcases h with ⟨_, ⟨h, _⟩ | ⟨_, h | h, _⟩⟩ <;> cases h)
    have hB := HB.out.resolve_right (fun h => by rcases h with ⟨_, ⟨h, _⟩ | ⟨_, h | h, _⟩⟩ <;> cases h)
    obtain ⟨_, _, hla, X, hX, hrx⟩ := hA
    obtain ⟨_, _, hlb, Y, hY, hry⟩ := hB
    have hnx := lexGo_len 0 _ X hX
    have hny := lexGo_len 0 _ Y hY
    have HPY := Lib.hid (toks_pos hY)
    rw [HLB.out] at HPY
    rw [HLA.out] at hla hrx
    rw [HLB.out] at hlb hry
    by_cases hbig : 4096 < a.size + 1 + b.size
    · have HV := Lib.hid (splits_big (a := a.data.toList) (b := b.data.toList) (by rw [HLA.out, HLB.out]; exact hbig))
      rw [HV.out] at HL
      have E1 : wrap64 (wrap64 ((a.size : Int) + 1) + (b.size : Int)) = (a.size : Int) + 1 + (b.size : Int) := by unfold wrap64; omega
      have E2 : wrap64 ((a.size : Int) + 1) = (a.size : Int) + 1 := by unfold wrap64; omega
      have B1 : decide (4096 < (a.size : Int) + 1 + (b.size : Int)) = true := decide_eq_true (by omega)
      clear HA HB hrx hry hX hY
      refine HL.out.mono ?_
      rintro e w4 ⟨rfl, hb4⟩
      have HBZ := Lib.hid (HB1.out.trans (((HB2.out.trans (HB3.out.mono HB2.out.size)).trans (hb4.mono (Nat.le_trans HB2.out.size HB3.out.size))).mono HB1.out.size))
      clear hb4
      go_wp2_with fail
      go_ret
      exact ⟨rfl, HBZ.out⟩
    · have HV := Lib.hid (splits_v hX hY (by rw [HLA.out, HLB.out]; omega))
      rw [HLA.out, HLB.out] at HV
      rw [HV.out] at HL
      have E1 : wrap64 (wrap64 ((a.size : Int) + 1) + (b.size : Int)) = (a.size : Int) + 1 + (b.size : Int) := by unfold wrap64; omega
      have E2 : wrap64 ((a.size : Int) + 1) = (a.size : Int) + 1 := by unfold wrap64; omega
      have B1 : decide (4096 < (a.size : Int) + 1 + (b.size : Int)) = false := decide_eq_false (by omega)
      have HRX := Lib.hid hrx
      have HRY := Lib.hid hry
      clear HA HB hrx hry hX hY HV
      refine HL.out.mono ?_
      rintro e w4 ⟨vz, rfl, hrz, hb4⟩
      have HBZ := Lib.hid (HB1.out.trans (((HB2.out.trans (HB3.out.mono HB2.out.size)).trans (hb4.mono (Nat.le_trans HB2.out.size HB3.out.size))).mono HB1.out.size))
      obtain ⟨Az, cz, rfl, hvz⟩ := hrz.at_
      obtain ⟨Ax, cx, rfl, hvx⟩ := HRX.out.at_
      obtain ⟨Ay, cy, rfl, hvy⟩ := HRY.out.at_
      have HVZ := Lib.hid hvz
      have HVX := Lib.hid (fun (W : World) (i : Nat) (t : TK × Nat) (ht : (X ++ [(⟨0, [], 0⟩, a.size)])[i]? = some t) (hb : Below w4.heap.size w4 W) => hvx W i t ht ((HB3.out.trans (hb4.mono HB3.out.size)).trans (hb.mono (Nat.le_trans HB3.out.size hb4.size))))
      have HVY := Lib.hid (fun (W : World) (i : Nat) (t : TK × Nat) (ht : (Y ++ [(⟨0, [], 0⟩, b.size)])[i]? = some t) (hb : Below w4.heap.size w4 W) => hvy W i t ht (hb4.trans (hb.mono hb4.size)))
      have hlx : (X ++ [((⟨0, [], 0⟩ : TK), a.size)]).length = X.length + 1 := by simp
      have hly : (Y ++ [((⟨0, [], 0⟩ : TK), b.size)]).length = Y.length + 1 := by simp
      have hlz : (X ++ moved (a.size + 1) (Y ++ [(⟨0, [], 0⟩, b.size)])).length = X.length + (Y.length + 1) := by simp [moved]
      rw [hlx, hly, hlz]
      have HGX := Lib.hid (fun (i : Nat) (h : i < X.length) => splits_x (X := X) a.size (moved (a.size + 1) (Y ++ [(⟨0, [], 0⟩, b.size)])) i h)
      have HGY := Lib.hid (fun (i : Nat) (h : i < Y.length + 1) => splits_y (X := X) (Y := Y ++ [((⟨0, [], 0⟩ : TK), b.size)]) (a.size + 1) i (by rw [hly]; exact h))
      generalize X ++ moved (a.size + 1) (Y ++ [(⟨0, [], 0⟩, b.size)]) = TZ at *
      generalize X ++ [((⟨0, [], 0⟩ : TK), a.size)] = TX at *
      generalize Y ++ [((⟨0, [], 0⟩ : TK), b.size)] = TY at *
      rw [HLA.out] at hnx
      rw [HLB.out] at hny
      obtain ⟨B3, E3⟩ := splits_len X.length Y.length (by omega) (by omega)
      clear hlx hly hlz
      generalize X.length = nx at *
      generalize Y.length = ny at *
      have HZ0 := Lib.hid (Below.refl w4.heap.size w4)
      clear hvx hvy hvz hrz hb4 HRX HRY HL
      go_wp2_with fail
      go_loopw [14] (fun vi wr => ∃ i : Nat, i ≤ nx ∧ vi = .int .i64 i ∧ Hid (Below w4.heap.size w4 wr)) (fun vi _ => nx - (intOf vi).toNat)
      case atStart => exact ⟨0, by omega, by go_num, HZ0⟩
      case round =>
        obtain ⟨i, hi, rfl, HW⟩ := hrel
        by_cases hi2 : i < nx
        · have g1 : decide ((i : Int) < (nx : Int)) = true := decide_eq_true (by omega)
          have g1' : decide (i < nx) = true := decide_eq_true hi2
          obtain ⟨t, hx1, hx2⟩ := HGX.out i hi2
          obtain ⟨gx, rfl, _, _, xl, x0, x1, x2, x3⟩ := HVX.out wr i _ hx1 HW.out
          obtain ⟨gz, rfl, _, _, zl, z0, z1, z2, z3⟩ := HVZ.out wr i _ hx2 HW.out
          clear hx1 hx2
          obtain ⟨⟨tk, tt, tn⟩, ta⟩ := t
          simp only at x0 x1 x2 x3 z0 z1 z2 z3
          have g2 : (i : Int) < (nx : Int) + 1 := by omega
          have g3 : (i : Int) < (nx : Int) + ((ny : Int) + 1) := by omega
          have g4 : (0 : Int) ≤ (i : Int) := by omega
          have E4 : IntKind.i64.wrap (i : Int) = (i : Int) := by rw [IntKind.wrap_i64]; omega
          go_upto_region 15 with fail
          go_region
          have HWN := Lib.hid (HW.out.trans (((Below.refl wr.heap.size wr).drew).mono HW.out.size))
          clear x0 x1 x2 x3 z0 z1 z2 z3 xl zl
          go_wp2_with fail
          go_roundw
          case rel => exact ⟨i + 1, by omega, by go_num, HWN⟩
          case measure => simp [intOf]; omega
        · have g1 : decide ((i : Int) < (nx : Int)) = false := decide_eq_false (by omega)
          have g1' : decide (i < nx) = false := decide_eq_false hi2
          obtain ⟨ov, rfl⟩ : ∃ ov : Value, ov = .int .i64 (i : Int) := ⟨_, rfl⟩
          clear HZ0
          go_wp2_with fail
          go_loopw [86] (fun vj w5 => ∃ j : Nat, j ≤ ny + 1 ∧ vj = .int .i64 j ∧ Hid (Below w4.heap.size w4 w5)) (fun vj _ => (ny + 1) - (intOf vj).toNat)
          case atStart => exact ⟨0, by omega, by go_num, HW⟩
          case round =>
            obtain ⟨j, hj, rfl, HV⟩ := hrel
            by_cases hj2 : j < ny + 1
            · have g2 : decide ((j : Int) < (ny : Int) + 1) = true := decide_eq_true (by omega)
              obtain ⟨⟨⟨tk, tt, tn⟩, ta⟩, hy1, hz1⟩ := HGY.out j hj2
              have hta := HPY.out j _ hy1
              obtain ⟨gy, rfl, _, _, yl, y0, y1, y2, y3⟩ := HVY.out wr j _ hy1 HV.out
              simp only at y0 y1 y2 y3 hta hz1
              have HZ1 := Lib.hid hz1
              obtain ⟨E7, E8, E4, g5, g6, E9, g3, g4⟩ := wrap_index nx ny j (by omega) (by omega) hj2
              obtain ⟨hE6, E5⟩ := wrap_moved a.size ta (by omega) (by omega)
              have HE6 := Lib.hid hE6
              have HBX : Hid (TokBox (wr.alloc (.cells #[.int .i64 tk, .int .i64 (ta : Int), .string ⟨tt.toArray⟩, .int .i64 tn] 31 (0, 0))) wr.heap.size tk ta ⟨tt.toArray⟩ tn) := Lib.hid (box_at wr _ _ rfl)
              have HBW := Lib.hid (below_one' (w := wr) (.cells #[.int .i64 tk, .int .i64 (ta : Int), .string ⟨tt.toArray⟩, .int .i64 tn] 31 (0, 0)))
              clear hy1 hz1 HVX HGX HGY HVY HPY HLA HLB HY3 HB1 HB2 HB3 hbig hla hlb HW hi hi2 g1 g1' hta g2 B3 hE6
              go_upto_region 21 with fail
              generalize wr.alloc (.cells #[.int .i64 tk, .int .i64 (ta : Int), .string ⟨tt.toArray⟩, .int .i64 tn] 31 (0, 0)) = w6 at *
              have HZL : Hid (wr.heap.size ≤ wr.heap.size) := Lib.hid (Nat.le_refl _)
              have HVM := Lib.hid (HV.out.trans (HBW.out.mono HV.out.size))
              have HVS := Lib.hid HV.out.size
              generalize hbx : wr.heap.size = bx at *
              obtain ⟨c0, c1, c2, c3, cf⟩ := HBX.out.cells
              have f1 := cf 1
              have hbl := box_lt HBX.out
              clear y0 y1 y2 y3 yl cf hbx
              go_upto_region 22 with fail
              rw [HE6.out]
              have HB7 : Hid (TokBox (w6.setCell ⟨bx, 1, none⟩ (.int .i64 ((ta + (a.size + 1) : Nat) : Int))) bx tk ((ta + (a.size + 1) : Nat) : Int) ⟨tt.toArray⟩ tn) := Lib.hid (heap_setOne HBX.out 1 _)
              have HV7 := Lib.hid (HVM.out.setCell (p := ⟨bx, 1, none⟩) HVS.out (.int .i64 ((ta + (a.size + 1) : Nat) : Int)))
              clear c0 c1 c2 c3 f1 hbl HBX HVM HE6
              generalize w6.setCell ⟨bx, 1, none⟩ (.int .i64 ((ta + (a.size + 1) : Nat) : Int)) = w7 at *
              generalize ta + (a.size + 1) = za at *
              obtain ⟨c0, c1, c2, c3, _⟩ := HB7.out.cells
              have hbl := box_lt HB7.out
              obtain ⟨gz, rfl, _, _, zl, z0, z1, z2, z3⟩ := HVZ.out w7 (nx + j) _ HZ1.out HV7.out
              simp only at z0 z1 z2 z3
              go_region
              have HVN := Lib.hid (HV7.out.trans (((Below.refl w7.heap.size w7).drew).mono HV7.out.size))
              clear c0 c1 c2 c3 hbl z0 z1 z2 z3 zl
              go_wp2_with fail
              go_roundw
              case rel => exact ⟨j + 1, by omega, by go_num, HVN⟩
              case measure => simp [intOf]; omega
            · have g2 : decide ((j : Int) < (ny : Int) + 1) = false := decide_eq_false (by omega)
              have HEB := Lib.hid (HBZ.out.trans (HV.out.mono HBZ.out.size))
              go_wp2_with fail
              go_ret
              exact ⟨rfl, HEB.out⟩
  · refine (lex_out _ _ HY3.out).mono ?_
    rintro e w4 ⟨vz, ez, qz, rfl, hb4, _⟩
    have HBZ := Lib.hid (HB1.out.trans (((HB2.out.trans (HB3.out.mono HB2.out.size)).trans (hb4.mono (Nat.le_trans HB2.out.size HB3.out.size))).mono HB1.out.size))
    clear hb4
    by_cases h1 : ea = 0
    · have B1 : (eb != 0) = true := by rw [bne_iff_ne]; exact fun h => hok ⟨h1, h⟩
      subst h1
      clear hok
      go_wp2_with fail
      go_ret
      exact ⟨rfl, HBZ.out⟩
    · have B1 : (ea != 0) = true := by rw [bne_iff_ne]; exact h1
      clear hok h1
      go_wp2_with fail
      go_ret
      exact ⟨rfl, HBZ.out⟩
end Go.Proofs.YtigbapkdpaahjaaDoor
