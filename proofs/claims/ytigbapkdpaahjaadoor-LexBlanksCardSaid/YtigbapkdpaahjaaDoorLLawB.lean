/-
  The walk of the law LexBlanks: whatever the input, it returns true and leaves what was there as it was. Condition: the variable of the signs holds what its initialiser lays.
-/
import Derived.Test.YtigbapkdpaahjaaDoorLLawS
namespace Go.Proofs.YtigbapkdpaahjaaDoor
open Go.RowKit
theorem blanks_v {P l : List UInt8} {m : Nat} (hP : ∀ c ∈ P, isBlank c = true) : lexGo 0 0 (P ++ l ++ List.replicate m 32) = (lexGo 0 0 l).shift P.length := by
  rw [List.append_assoc, lexGo_blanks_ahead P hP, lexGo_blanks, show 0 + P.length = 0 + P.length from rfl, lexGo_shift]
/-- Blanks ahead of a text. -/
def Ahead (s o : ByteArray) (i : Nat) : Prop := ∃ P : List UInt8, o.data.toList = P ++ s.data.toList ∧ P.length = i ∧ ∀ c ∈ P, isBlank c = true
theorem Ahead.start (s : ByteArray) : Ahead s s 0 := ⟨[], rfl, rfl, fun c hc => by cases hc⟩
theorem Ahead.more {s o : ByteArray} {i : Nat} (h : Ahead s o i) (c : UInt8) (hc : isBlank c = true) : Ahead s (⟨#[c]⟩ ++ o) (i + 1) := by
  obtain ⟨P, h1, h2, h3⟩ := h
  refine ⟨c :: P, by rw [joined, h1]; rfl, by rw [List.length_cons, h2], fun d hd => ?_⟩
  rcases List.mem_cons.1 hd with rfl | hd
  · exact hc
  · exact h3 d hd
theorem Ahead.size {s o : ByteArray} {i : Nat} (h : Ahead s o i) : o.size = i + s.size := by
  obtain ⟨P, h1, h2, _⟩ := h
  have h3 := congrArg List.length h1
  rw [List.length_append, h2] at h3
  exact h3
/-- .. and behind it. -/
def Around (s o : ByteArray) (n j : Nat) : Prop := ∃ P : List UInt8, o.data.toList = P ++ s.data.toList ++ List.replicate j 32 ∧ P.length = n ∧ ∀ c ∈ P, isBlank c = true
theorem Ahead.around {s o : ByteArray} {n : Nat} (h : Ahead s o n) : Around s o n 0 := by
  obtain ⟨P, h1, h2, h3⟩ := h
  exact ⟨P, by rw [h1, List.replicate_zero, List.append_nil], h2, h3⟩
theorem Around.more {s o : ByteArray} {n j : Nat} (h : Around s o n j) : Around s (o ++ ⟨#[32]⟩) n (j + 1) := by
  obtain ⟨P, h1, h2, h3⟩ := h
  refine ⟨P, ?_, h2, h3⟩
  rw [joined, h1, List.replicate_succ', List.append_assoc (P ++ s.data.toList)]
theorem Around.size {s o : ByteArray} {n j : Nat} (h : Around s o n j) : o.size = n + s.size + j := by
  obtain ⟨P, h1, h2, _⟩ := h
  have h3 := congrArg List.length h1
  rw [List.length_append, List.length_append, h2, List.length_replicate] at h3
  exact h3
theorem Around.go {s o : ByteArray} {n j : Nat} (h : Around s o n j) : lexGo 0 0 o.data.toList = (lexGo 0 0 s.data.toList).shift n := by
  obtain ⟨P, h1, h2, h3⟩ := h
  rw [h1, blanks_v h3, h2]
theorem blanks_tok {l : List UInt8} {X : List (TK × Nat)} (h : lexGo 0 0 l = .ok X) (n m k : Nat) (hk : k < X.length + 1) : ∃ (t : TK) (a b : Nat), (X ++ [((⟨0, [], 0⟩ : TK), l.length)])[k]? = some (t, a) ∧ (moved n X ++ [((⟨0, [], 0⟩ : TK), n + l.length + m)])[k]? = some (t, b) ∧ a ≤ l.length ∧ ((1 ≤ t.kind ∧ b = a + n) ∨ (t.kind = 0 ∧ b = a + n + m)) := by
  by_cases hx : k < X.length
  · have hm : k < (moved n X).length := by unfold moved; rw [List.length_map]; exact hx
    refine ⟨X[k].1, X[k].2, X[k].2 + n, by rw [List.getElem?_append_left hx, List.getElem?_eq_getElem hx], ?_, ?_, .inl ⟨(lexGo_good 0 l X h _ (List.getElem_mem hx)).2, rfl⟩⟩
    · rw [List.getElem?_append_left hm]
      unfold moved
      rw [List.getElem?_map, List.getElem?_eq_getElem hx]; rfl
    · have := lexGo_pos 0 l X h _ (List.getElem_mem hx)
      omega
  · obtain rfl : k = X.length := by omega
    have hm : (moved n X).length = X.length := by unfold moved; rw [List.length_map]
    refine ⟨⟨0, [], 0⟩, l.length, n + l.length + m, by simp, ?_, Nat.le_refl _, .inr ⟨rfl, by omega⟩⟩
    rw [List.getElem?_append_right (by omega), hm, Nat.sub_self]; rfl
theorem wrap_nat (a b : Nat) (ha : a ≤ 10000000) (hb : b ≤ 10000000) : wrap64 ((a : Int) + (b : Int)) = (a : Int) + (b : Int) := by unfold wrap64; omega
theorem wrap_nat3 (a b c : Nat) (ha : a ≤ 10000000) (hb : b ≤ 10000000) (hc : c ≤ 10000000) : wrap64 ((a : Int) + (b : Int) + (c : Int)) = (a : Int) + (b : Int) + (c : Int) := by unfold wrap64; omega
theorem wrap_one (a : Nat) (ha : a ≤ 10000000) : wrap64 ((a : Int) + 1) = (a : Int) + 1 := by unfold wrap64; omega
theorem shift_ok {r q : LR} {n : Nat} {X : List (TK × Nat)} (h : q = r.shift n) (hr : r = .ok X) : q = .ok (moved n X) := by subst hr; exact h
theorem shift_bad {r q : LR} {n : Nat} {e : Int} {k : Nat} (h : q = r.shift n) (hr : r = .bad e k) : q = .bad e (k + n) := by subst hr; exact h
/-- What Lex gave of the text with blanks around it. -/
theorem LexOut.around_ok {s o : ByteArray} {n m B qb : Nat} {X : List (TK × Nat)} {v : Value} {er : Int} {w : World} (ha : Around s o n m) (hX : lexGo 0 0 s.data.toList = .ok X) (hb : ¬ 4096 < o.size) (h : LexOut o.data.toList B v er qb w) : er = 0 ∧ TokRow B w v (moved n X ++ [(⟨0, [], 0⟩, n + s.size + m)]) := by
  have hg := shift_ok ha.go hX
  have ho : o.data.toList.length = o.size := rfl
  have hz := ha.size
  rcases h with ⟨h1, _, _, Y, h4, h5⟩ | ⟨_, ⟨_, _, h⟩ | ⟨_, _, _, h⟩⟩
  · rw [hg] at h4
    obtain rfl := LR.ok.inj h4
    rw [ho, hz] at h5
    exact ⟨h1, h5⟩
  · omega
  · rw [hg] at h; cases h
theorem LexOut.around_bad {s o : ByteArray} {n m B q qb : Nat} {e : Int} {v : Value} {er : Int} {w : World} (ha : Around s o n m) (hX : lexGo 0 0 s.data.toList = .bad e q) (hb : ¬ 4096 < o.size) (h : LexOut o.data.toList B v er qb w) : er = e ∧ qb = q + n := by
  have hg := shift_bad ha.go hX
  have ho : o.data.toList.length = o.size := rfl
  rcases h with ⟨_, _, _, Y, h4, _⟩ | ⟨_, ⟨_, _, h⟩ | ⟨_, _, _, h⟩⟩
  · rw [hg] at h4; cases h4
  · omega
  · rw [hg] at h
    obtain ⟨h1, h2⟩ := LR.bad.inj h
    exact ⟨h1.symm, h2.symm⟩
theorem LexOut.big {l : List UInt8} {B q : Nat} {v : Value} {er : Int} {w : World} (h : LexOut l B v er q w) (hb : 4096 < l.length) : er = 4 := by
  rcases h with ⟨_, _, h, _⟩ | ⟨_, ⟨h, _⟩ | ⟨h, _⟩⟩
  · omega
  · exact h
  · omega
set_option maxRecDepth 100000 in
set_option maxHeartbeats 4000000 in
theorem law_Blanks (s : ByteArray) (x y : Int) (w : World) (hy : Syms w) (hs : s.size ≤ 140737488355328) (hx : 0 ≤ x ∧ x ≤ 255) (hyy : 0 ≤ y ∧ y ≤ 255) : Calls Tryd.prog 6 #[.string s, .int .u8 x, .int .u8 y] w (YesMade true w) := by
  have HY := Lib.hid hy
  obtain ⟨hx0, hx1⟩ := hx
  obtain ⟨hy0, hy1⟩ := hyy
  obtain ⟨n, hn, hn1⟩ : ∃ n : Nat, x % 100 = (n : Int) ∧ n < 100 := ⟨(x % 100).toNat, by omega, by omega⟩
  obtain ⟨m, hm, hm1⟩ : ∃ m : Nat, y % 100 = (m : Int) ∧ m < 100 := ⟨(y % 100).toNat, by omega, by omega⟩
  clear hy
  go_enter Tryd.func6, Tryd.ntmps6
  go_wp2_with fail
  refine (awake5_any _ HY.out).mono ?_
  rintro e w1 ⟨rfl, hb1⟩
  have HB1 := Lib.hid hb1
  have HY1 := Lib.hid (HY.out.below hb1)
  clear hb1 HY
  go_wp2_with fail
  have HZ0 := Lib.hid (Below.refl w1.heap.size w1)
  have HA0 := Lib.hid (Ahead.start s)
  go_loopw [9, 10] (fun vo vi wr => ∃ (i : Nat) (o : ByteArray), i ≤ n ∧ vi = .int .i64 i ∧ vo = .string o ∧ Hid (Ahead s o i) ∧ Hid (Below w1.heap.size w1 wr)) (fun _ vi _ => n - (intOf vi).toNat)
  case atStart => exact ⟨0, s, by omega, by go_num, rfl, HA0, HZ0⟩
  case round =>
    obtain ⟨i, o, hi, rfl, rfl, HA, HW⟩ := hrel
    clear HZ0 HA0
    have hos := HA.out.size
    by_cases hi2 : i < n
    · have g1 : decide ((i : Int) < (n : Int)) = true := decide_eq_true (by omega)
      have g1' : decide (i < n) = true := decide_eq_true hi2
      have g2 : (0 : Int) ≤ (i : Int) := by omega
      have n1 : ¬ 9223372036854775807 < 1 + o.size := by omega
      have hW := HW.out.size
      have HWN := Lib.hid (fun (ob : Obj) => HW.out.trans ((below_one' (w := wr) ob).mono HW.out.size))
      rcases Nat.mod_two_eq_zero_or_one i with hp | hp
      · have hp2 : (i : Int) % 2 = 0 := by omega
        have HN := Lib.hid (HA.out.more 10 (by decide))
        have hcv := oneByte wr 10 wr.heap.size rfl
        clear hp hos
        go_wp2_with fail
        go_roundw
        case rel => exact ⟨i + 1, _, by omega, by go_num, rfl, HN, Lib.hid (HWN.out _)⟩
        case measure => simp [intOf]; omega
      · have hp2 : (i : Int) % 2 = 1 := by omega
        have HN := Lib.hid (HA.out.more 32 (by decide))
        have hcv := oneByte wr 32 wr.heap.size rfl
        clear hp hos
        go_wp2_with fail
        go_roundw
        case rel => exact ⟨i + 1, _, by omega, by go_num, rfl, HN, Lib.hid (HWN.out _)⟩
        case measure => simp [intOf]; omega
    · have g1 : decide ((i : Int) < (n : Int)) = false := decide_eq_false (by omega)
      have g1' : decide (i < n) = false := decide_eq_false hi2
      obtain rfl : i = n := by omega
      have HR0 := Lib.hid HA.out.around
      obtain ⟨ov, rfl⟩ : ∃ ov : Value, ov = .int .i64 (i : Int) := ⟨_, rfl⟩
      go_wp2_with fail
      go_loopw [9, 11] (fun vo vj w5 => ∃ (j : Nat) (o : ByteArray), j ≤ m ∧ vj = .int .i64 j ∧ vo = .string o ∧ Hid (Around s o i j) ∧ Hid (Below w1.heap.size w1 w5)) (fun _ vj _ => m - (intOf vj).toNat)
      case atStart => exact ⟨0, o, by omega, by go_num, rfl, HR0, HW⟩
      case round =>
        obtain ⟨j, o5, hj, rfl, rfl, HR, HV⟩ := hrel
        have hos5 := HR.out.size
        by_cases hj2 : j < m
        · have g2 : decide ((j : Int) < (m : Int)) = true := decide_eq_true (by omega)
          have g2' : decide (j < m) = true := decide_eq_true hj2
          have n1 : ¬ 9223372036854775807 < o5.size + 1 := by omega
          have HN := Lib.hid HR.out.more
          clear hos5 hos HR0 HA HW
          go_wp2_with fail
          go_roundw
          case rel => exact ⟨j + 1, _, by omega, by go_num, rfl, HN, HV⟩
          case measure => simp [intOf]; omega
        · have g2 : decide ((j : Int) < (m : Int)) = false := decide_eq_false (by omega)
          have g2' : decide (j < m) = false := decide_eq_false hj2
          obtain rfl : j = m := by omega
          have HY5 := Lib.hid (HY1.out.below HV.out)
          have HB5 := Lib.hid (HB1.out.trans (HV.out.mono HB1.out.size))
          obtain ⟨ov2, rfl⟩ : ∃ ov2 : Value, ov2 = .int .i64 (j : Int) := ⟨_, rfl⟩
          clear HR0 HA HW HV hos
          go_wp2_with fail
          clear g1 g1' hi2 g2 g2' hj2
          refine (lex_out s _ HY5.out).mono ?_
          rintro e w6 ⟨va, ea, qa, rfl, hb6, ho⟩
          have HO := Lib.hid ho
          have HB6 := Lib.hid (HB5.out.trans (hb6.mono HB5.out.size))
          have HY6 := Lib.hid (HY5.out.below hb6)
          clear ho hb6 HY5 HB5
          go_wp2_with fail
          refine (lex_out o5 _ HY6.out).mono ?_
          rintro e w7 ⟨vb, eb, qb, rfl, hb7, ho⟩
          have HP := Lib.hid ho
          have HB7 := Lib.hid (HB6.out.trans (hb7.mono HB6.out.size))
          have HO7 := Lib.hid (HO.out.keep hb7)
          clear ho hb7 HY6 HB6 HO
          by_cases hbig : 4096 < o5.size
          · as_aux_lemma =>
              have g3 : decide (4096 < (o5.size : Int)) = true := decide_eq_true (by omega)
              have g3' : decide (4096 < o5.size) = true := decide_eq_true hbig
              obtain rfl := HP.out.big hbig
              clear hos5
              go_wp2_with fail
              go_ret
              exact ⟨rfl, HB7.out⟩
          · have g3 : decide (4096 < (o5.size : Int)) = false := decide_eq_false (by omega)
            have g3' : decide (4096 < o5.size) = false := decide_eq_false hbig
            have hls : s.data.toList.length = s.size := rfl
            have ho7 := HO7.out
            unfold LexOut at ho7
            rw [hls] at ho7
            clear hls
            rcases ho7 with ⟨rfl, rfl, _, X, hX, hrx⟩ | ⟨rfl, ⟨_, _, h⟩ | ⟨hs4, hee, hq, hX⟩⟩
            · as_aux_lemma =>
                obtain ⟨rfl, hrz⟩ := HP.out.around_ok HR.out hX hbig
                have hnx := lexGo_len 0 _ X hX
                have HG := Lib.hid (fun (k : Nat) (hk : k < X.length + 1) => blanks_tok hX i j k hk)
                rw [show s.data.toList.length = s.size from rfl] at HG hnx
                have hl1 : (X ++ [((⟨0, [], 0⟩ : TK), s.size)]).length = X.length + 1 := by simp
                have hl2 : (moved i X ++ [((⟨0, [], 0⟩ : TK), i + s.size + j)]).length = X.length + 1 := by simp [moved]
                obtain ⟨Ax, cx, rfl, hvx⟩ := hrx.at_
                obtain ⟨Az, cz, rfl, hvz⟩ := hrz.at_
                have HVX := Lib.hid hvx
                have HVZ := Lib.hid hvz
                rw [hl1, hl2]
                have hss : s.size ≤ 4096 := by omega
                clear hl1 hl2 hvx hvz hrx hrz HP HO7 HR hos5 hX hbig
                generalize X ++ [((⟨0, [], 0⟩ : TK), s.size)] = TX at *
                generalize moved i X ++ [((⟨0, [], 0⟩ : TK), i + s.size + j)] = TZ at *
                generalize X.length = nx at *
                have HZ0 := Lib.hid (Below.refl w7.heap.size w7)
                have A1 : ((nx : Int) + 1 != (nx : Int) + 1) = false := by simp
                have hik : i ≤ 99 := by omega
                have hjk : j ≤ 99 := by omega
                clear hn hn1 hm hm1
                go_upto_region 17 with fail
                clear g3 g3'
                go_upto_region 23 with fail
                clear A1
                go_wp2_with fail
                go_loopw [114] (fun vk w8 => ∃ k : Nat, k ≤ nx + 1 ∧ vk = .int .i64 k ∧ Hid (Below w7.heap.size w7 w8)) (fun vk _ => (nx + 1) - (intOf vk).toNat)
                case atStart => exact ⟨0, by omega, by go_num, HZ0⟩
                case round =>
                  obtain ⟨k, hk, rfl, HV⟩ := hrel
                  by_cases hk2 : k < nx + 1
                  · obtain ⟨⟨tk, tt, tn⟩, ta, tb, hx1, hz1, hta, hor⟩ := HG.out k hk2
                    have h2 : decide ((k : Int) < (nx : Int) + 1) = true := decide_eq_true (by omega)
                    have h3 : (k : Int) < (nx : Int) + 1 := by omega
                    have h4 : (0 : Int) ≤ (k : Int) := by omega
                    obtain ⟨gx, rfl, _, _, xl, x0, x1, x2, x3⟩ := HVX.out wr k _ hx1 HV.out
                    simp only at x0 x1 x2 x3 hor
                    have HZ1 := Lib.hid hz1
                    have HOR := Lib.hid hor
                    have HW1 := Lib.hid (wrap_nat ta i (by omega) (by omega))
                    have HW2 := Lib.hid (wrap_nat3 ta i j (by omega) (by omega) (by omega))
                    have HBX : Hid (TokBox (wr.alloc (.cells #[.int .i64 tk, .int .i64 (ta : Int), .string ⟨tt.toArray⟩, .int .i64 tn] 31 (0, 0))) wr.heap.size tk ta ⟨tt.toArray⟩ tn) := Lib.hid (box_at wr _ _ rfl)
                    have HBW := Lib.hid (below_one' (w := wr) (.cells #[.int .i64 tk, .int .i64 (ta : Int), .string ⟨tt.toArray⟩, .int .i64 tn] 31 (0, 0)))
                    have HKN : Hid (k + 1 ≤ nx + 1) := Lib.hid (by omega)
                    have hkb : k ≤ 10000 := by omega
                    clear hx1 hz1 hor hk hta hnx hss hik hjk
                    go_upto_region 27 with fail
                    generalize wr.alloc (.cells #[.int .i64 tk, .int .i64 (ta : Int), .string ⟨tt.toArray⟩, .int .i64 tn] 31 (0, 0)) = w9 at *
                    have HVM := Lib.hid (HV.out.trans (HBW.out.mono HV.out.size))
                    have HVS := Lib.hid HV.out.size
                    generalize hbx : wr.heap.size = bx at *
                    obtain ⟨c0, c1, c2, c3, cf⟩ := HBX.out.cells
                    have f1 := cf 1
                    have hbl := box_lt HBX.out
                    have E1 := HW1.out
                    clear x0 x1 x2 x3 xl cf hbx h2
                    go_upto_region 28 with fail
                    have HB9 : Hid (TokBox (w9.setCell ⟨bx, 1, none⟩ (.int .i64 ((ta : Int) + (i : Int)))) bx tk ((ta : Int) + (i : Int)) ⟨tt.toArray⟩ tn) := Lib.hid (heap_setOne HBX.out 1 _)
                    have HV9 := Lib.hid (HVM.out.setCell (p := ⟨bx, 1, none⟩) HVS.out (.int .i64 ((ta : Int) + (i : Int))))
                    clear c0 c1 c2 c3 f1 hbl HBX HVM
                    generalize w9.setCell ⟨bx, 1, none⟩ (.int .i64 ((ta : Int) + (i : Int))) = w10 at *
                    obtain ⟨c0, c1, c2, c3, cf⟩ := HB9.out.cells
                    have f1 := cf 1
                    have hbl := box_lt HB9.out
                    clear cf E1
                    rcases HOR.out with ⟨hk1, rfl⟩ | ⟨rfl, rfl⟩
                    · have A5 : (tk == 0) = false := by rw [beq_eq_false_iff_ne]; omega
                      obtain ⟨gz, rfl, _, _, zl, z0, z1, z2, z3⟩ := HVZ.out w10 k _ HZ1.out HV9.out
                      simp only at z0 z1 z2 z3
                      rw [Int.natCast_add] at z1
                      clear hk1 HOR
                      go_upto_region 30 with fail
                      go_region
                      have HVN := Lib.hid (HV9.out.trans (((Below.refl w10.heap.size w10).drew).mono HV9.out.size))
                      clear c0 c1 c2 c3 hbl z0 z1 z2 z3 zl f1 A5
                      go_wp2_with fail
                      go_roundw
                      case rel => exact ⟨k + 1, HKN.out, by go_num, HVN⟩
                      case measure => simp [intOf]; omega
                    · have E1 := HW2.out
                      clear HOR
                      go_upto_region 30 with fail
                      have HB11 : Hid (TokBox (w10.setCell ⟨bx, 1, none⟩ (.int .i64 ((ta : Int) + (i : Int) + (j : Int)))) bx 0 ((ta : Int) + (i : Int) + (j : Int)) ⟨tt.toArray⟩ tn) := Lib.hid (heap_setOne HB9.out 1 _)
                      have HV11 := Lib.hid (HV9.out.setCell (p := ⟨bx, 1, none⟩) HVS.out (.int .i64 ((ta : Int) + (i : Int) + (j : Int))))
                      clear c0 c1 c2 c3 f1 hbl HB9 HV9 E1
                      generalize w10.setCell ⟨bx, 1, none⟩ (.int .i64 ((ta : Int) + (i : Int) + (j : Int))) = w11 at *
                      obtain ⟨c0, c1, c2, c3, _⟩ := HB11.out.cells
                      have hbl := box_lt HB11.out
                      obtain ⟨gz, rfl, _, _, zl, z0, z1, z2, z3⟩ := HVZ.out w11 k _ HZ1.out HV11.out
                      simp only at z0 z1 z2 z3
                      rw [Int.natCast_add, Int.natCast_add] at z1
                      go_region
                      have HVN := Lib.hid (HV11.out.trans (((Below.refl w11.heap.size w11).drew).mono HV11.out.size))
                      clear c0 c1 c2 c3 hbl z0 z1 z2 z3 zl
                      go_wp2_with fail
                      go_roundw
                      case rel => exact ⟨k + 1, HKN.out, by go_num, HVN⟩
                      case measure => simp [intOf]; omega
                  · have h2 : decide ((k : Int) < (nx : Int) + 1) = false := decide_eq_false (by omega)
                    have HEB := Lib.hid (HB7.out.trans (HV.out.mono HB7.out.size))
                    go_wp2_with fail
                    go_ret
                    exact ⟨rfl, HEB.out⟩
            · omega
            · as_aux_lemma =>
                obtain ⟨rfl, rfl⟩ := HP.out.around_bad HR.out hX hbig
                have hix := fun W => index_at s qa hq qa rfl W
                have A1 : (eb != 0) = true := by rw [bne_iff_ne]; omega
                have A2 : (eb == eb) = true := by simp
                have g4 : (qa : Int) < (s.size : Int) := by omega
                have g5 : (0 : Int) ≤ (qa : Int) := by omega
                have HE := Lib.hid (⟨wrap_nat qa i (by omega) (by omega), wrap_one qa (by omega)⟩ : _ ∧ _)
                clear hos5 hX HP HO7 HR
                go_upto_region 18 with fail
                clear g3 g3' hbig
                by_cases h1 : qa + 1 = s.size
                · have A3 : ((qa : Int) + 1 == (s.size : Int)) = true := by rw [beq_iff_eq]; omega
                  clear h1
                  obtain ⟨E1, E2⟩ := HE.out
                  go_wp2_with fail
                  go_ret
                  exact ⟨rfl, HB7.out⟩
                · have A3 : ((qa : Int) + 1 == (s.size : Int)) = false := by rw [beq_eq_false_iff_ne]; omega
                  clear h1
                  by_cases h2 : eb = 20
                  · subst h2
                    generalize s[qa] = c at *
                    by_cases h3 : c = 34
                    · subst h3
                      obtain ⟨E1, E2⟩ := HE.out
                      go_wp2_with fail
                      go_ret
                      exact ⟨rfl, HB7.out⟩
                    · have A4 : ((c.toNat : Int) == 34) = false := (byte_ne (n := 34) (by decide)).2 h3
                      clear h3
                      obtain ⟨E1, E2⟩ := HE.out
                      go_wp2_with fail
                      go_ret
                      exact ⟨rfl, HB7.out⟩
                  · have A4 : (eb == 20) = false := by rw [beq_eq_false_iff_ne]; exact h2
                    clear h2
                    obtain ⟨E1, E2⟩ := HE.out
                    go_wp2_with fail
                    go_ret
                    exact ⟨rfl, HB7.out⟩
end Go.Proofs.YtigbapkdpaahjaaDoor
