/-
  The walk of the law StoreFull: whatever the input, it returns true and leaves what was there as it was. Condition: the table of math/bits holds what its initialiser lays.
-/
import Derived.Test.YtbmkjlpjgkfjcaaGreatDoorZZAll
import Derived.Deep.CutBlock
import Derived.Deep.RegionHeld3
import Derived.BigQuiet
namespace Go.Proofs.YtbmkjlpjgkfjcaaGreatDoor
open Go.RowKit
theorem reached_at {L : List Ob} {a : Nat} (h : IsIn L a) : ∃ (j : Nat) (o : Ob), L[j]? = some o ∧ o.at_ = a ∧ sizeAt L a = 1 + o.fs.length := by
  obtain ⟨o, ho⟩ := isIn_some h
  obtain ⟨h1, h2⟩ := find_mem ho
  obtain ⟨j, hj, he⟩ := List.getElem_of_mem h1
  exact ⟨j, o, by rw [List.getElem?_eq_getElem hj, he], h2, by unfold sizeAt; rw [ho]⟩
theorem sum_take {L : List Ob} {out : List Nat} {t : Nat} (h : t < out.length) : sumSizes L (out.take (t + 1)) = sumSizes L (out.take t) + sizeAt L (out.getD t 0) := by
  have h1 : out.getD t 0 = out[t] := by simp [List.getD_eq_getElem?_getD, h]
  rw [List.take_succ_eq_append_getElem h, h1]
  unfold sumSizes
  rw [List.map_append, List.sum_append, List.map_singleton, List.sum_singleton]
theorem sum_bound {m : Nat} {L : List Ob} (hl : Lies m 1 L) (hm : m ≤ 65536) (l : List Nat) : sumSizes L l ≤ l.length * 65537 := by
  induction l with
  | nil => exact Nat.le_refl _
  | cons a l ih =>
    have h1 : sizeAt L a ≤ 65537 := by
      unfold sizeAt
      split
      · rename_i o ho
        have := lies_fields hl hm o (find_mem ho).1
        omega
      · omega
    have h2 : sumSizes L (a :: l) = sizeAt L a + sumSizes L l := rfl
    rw [h2, List.length_cons, Nat.add_mul]
    omega
theorem full_end (m len sz sm : Nat) (h0 : 2 ≤ m) (h1 : m ≤ 2048) (hlen : len ≤ 65536) (hsz : sz ≤ 4096) (hsm : sm ≤ 4295032832) (hle : m - 1 ≤ sm + (len + 1) * sz) : decide ((m : Int) - 1 ≤ wrap64 ((sm : Int) + wrap64 (((len : Int) + 1) * (sz : Int)))) = true := by
  have hml : (len + 1) * sz ≤ 65537 * 4096 := Nat.mul_le_mul (by omega) hsz
  have hc : ((len : Int) + 1) * (sz : Int) = (((len + 1) * sz : Nat) : Int) := by rw [Int.natCast_mul, Int.natCast_add]; rfl
  rw [hc]
  generalize (len + 1) * sz = pz at hml hle
  have e1 : wrap64 (pz : Int) = (pz : Int) := by unfold wrap64; omega
  have e2 : wrap64 ((sm : Int) + (pz : Int)) = (sm : Int) + (pz : Int) := by unfold wrap64; omega
  rw [e1, e2]
  refine decide_eq_true ?_
  omega
theorem take_bound {m : Nat} {L : List Ob} (hl : Lies m 1 L) (hm : m ≤ 65536) {out : List Nat} (ho : out.length ≤ 65536) (t : Nat) : sumSizes L (out.take t) ≤ 4295032832 := by
  have h1 := sum_bound hl hm (out.take t)
  have h2 : (out.take t).length ≤ out.length := by rw [List.length_take]; omega
  have h3 : (out.take t).length * 65537 ≤ 65536 * 65537 := Nat.mul_le_mul_right _ (by omega)
  omega
set_option maxHeartbeats 8000000 in
set_option maxRecDepth 100000 in
theorem full_walk (m : Nat) (A : Option Addr) (n c : Nat) (sz : Nat) (w : World) (hT : Tab w) (h : 2 ≤ m ∧ m ≤ 2048) (hsz : sz ≤ 4096) (hS : Script4 w (fun b => b < w.heap.size) A n) (hn : n ≤ 9223372036854775807) :
    Calls Tryz.prog 4 #[.int .i64 (m : Int), .slice A n c, .int .i64 (sz : Int)] w (YesMade true w) := by
  have HT := Lib.hid hT
  have HS := Lib.hid hS
  have g1 : decide (2048 < (m : Int)) = false := decide_eq_false (by omega)
  have g2 : decide ((sz : Int) < 0) = false := decide_eq_false (by omega)
  have g3 : decide (4096 < (sz : Int)) = false := decide_eq_false (by omega)
  clear hT hS
  go_enter Tryz.func4, Tryz.ntmps4
  go_wp2_with fail
  refine (awake4_any _ HT.out).mono ?_
  rintro e w1 ⟨rfl, hb⟩
  have HB := Lib.hid hb
  have HT1 := Lib.hid (HT.out.below hb HT.out.lt)
  clear hb
  have hnew : Calls Tryz.prog 6 #[.int .i64 (m : Int)] w1 (SNew m w1) := st_New m (by omega) (by omega) w1
  have HNW := Lib.hid hnew
  clear hnew
  go_wp2_with fail
  refine HNW.out.mono ?_
  rintro e w2 ⟨p, g, q, rfl, h2, hb2, hx⟩
  have H2 : Hid (MidSt w1 p g q m ⟨⟨[], 0, [], [], 0⟩, 0⟩ w2) := Lib.hid ⟨h2, hb2⟩
  clear h2 hb2 HNW hx
  go_wp2_with fail
  refine (zs_New m (by omega) w2).mono ?_
  rintro e w3 ⟨pr, k, r, rfl, h3, hb3⟩
  have HM : Hid (MidZ w1 p g q m w3.heap.size pr k r 0 (w3.alloc (.cells #[.int .u64 1, .int .u64 1, .int .u64 1, .int .u64 1, .int .u64 1, .int .u64 1, .int .u64 1, .int .u64 1] 33))) := Lib.hid ⟨_, _, _, zmid_start H2.out h3 hb3, safe_eight, Nat.le_refl _⟩
  clear h3 hb3 H2
  go_upto_block 0 with fail
  generalize w3.alloc (.cells #[.int .u64 1, .int .u64 1, .int .u64 1, .int .u64 1, .int .u64 1, .int .u64 1, .int .u64 1, .int .u64 1] 33) = w4 at *
  generalize w3.heap.size = rb at *
  have HBB := Lib.hid (fun (wr : World) (hb : Below w1.heap.size w1 wr) => HB.out.trans (hb.mono HB.out.size))
  clear HB
  go_cut [10, 11, 12, 13, 14, 15, 16, 17] from 48 to 144 (fun _ _ _ _ _ _ _ _ wx => Hid (MidZ w1 p g q m rb pr k r 200 wx))
  case first =>
    go_wp2_with fail
    go_loopw [10] (fun vi wr => ∃ i : Nat, i ≤ n ∧ i ≤ 200 ∧ vi = .int .i64 i ∧ Hid (MidZ w1 p g q m rb pr k r i wr)) (fun vi _ => n - (intOf vi).toNat)
    case atStart => exact ⟨0, by omega, by omega, by go_num, HM⟩
    case round =>
      obtain ⟨i, hin, hi4, rfl, HMI⟩ := hrel
      clear HM
      have hcase : (i < n ∧ i < 200) ∨ n ≤ i ∨ (i < n ∧ 200 ≤ i) := by omega
      have HEND : Hid (MidZ w1 p g q m rb pr k r 200 wr) := Lib.hid (by obtain ⟨x, regs, T, h1, h2, h3⟩ := HMI.out; exact ⟨x, regs, T, h1, h2, by omega⟩)
      rcases hcase with ⟨hi1, hi2⟩ | hc | ⟨hc, hc4⟩
      · clear HEND
        have g4 : decide ((i : Int) < (n : Int)) = true := decide_eq_true (by omega)
        have g5 : decide ((i : Int) < 200) = true := decide_eq_true (by omega)
        obtain ⟨st, b, off, rfl, hbl, hxx, e0, e1, e2, e3, e4, e5, htz⟩ := HS.out i hi1
        obtain ⟨x, regs, T, hmp, hsf, hcy⟩ := HMI.out
        have hbw := HBB.out _ hmp.below
        have k0 := (hbw.cell (p := ⟨b, off + i * 6, none⟩) hbl).trans e0
        have k1 := (hbw.cell (p := ⟨b, off + i * 6 + 1, none⟩) hbl).trans e1
        have k2 := (hbw.cell (p := ⟨b, off + i * 6 + 2, none⟩) hbl).trans e2
        have k3 := (hbw.cell (p := ⟨b, off + i * 6 + 3, none⟩) hbl).trans e3
        have k4 := (hbw.cell (p := ⟨b, off + i * 6 + 4, none⟩) hbl).trans e4
        have k5 := (hbw.cell (p := ⟨b, off + i * 6 + 5, none⟩) hbl).trans e5
        have hbr : b < wr.heap.size := Nat.lt_of_lt_of_le hbl hbw.size
        clear hbw e0 e1 e2 e3 e4 e5 hxx
        have HRA := Lib.hid (fun W => reg_any st.a W)
        have HRC := Lib.hid (fun W => reg_any st.b W)
        have hra := regOf_lt st.a
        have hrc := regOf_lt st.b
        obtain ⟨nn, hnn4, hnn⟩ := six4_of st.m
        have HNN := Lib.hid hnn
        have HSF := Lib.hid hsf
        have HBX := Lib.hid (hmp.boxF st)
        clear hnn hmp hsf HMI
        go_upto_block 1 with fail
        go_cut [11, 12, 13, 14, 15, 16, 17] from 58 to 144 (fun _ _ _ _ _ _ _ wx => Hid (MidZ w1 p g q m rb pr k r (i + 1) wx))
        case first =>
          go_upto_region 12 with fail
          obtain ⟨U5, hm5⟩ := HBX.out
          clear HBX k0 k1 k2 k3 k4 k5
          generalize wr.alloc (.cells #[.int .i64 st.k, .int .i64 st.a, .int .i64 st.b, .int .i64 st.n, .int .i64 st.m, .string st.t] 30) = w5 at *
          generalize wr.heap.size = pb at *
          obtain ⟨q0, j1, j2, q4, hpb⟩ := hm5.stepCells
          have HM5 := Lib.hid hm5
          clear hm5 q0 q4
          go_quiet (first | (go_at_call 8; exact Calls.quiet_of_same ((HRA.out _).mono fun e w' hh => ⟨hh.1, hh.2.symm⟩)) | (go_at_call 8; exact Calls.quiet_of_same ((HRC.out _).mono fun e w' hh => ⟨hh.1, hh.2.symm⟩)))
          have HM6 := Lib.hid (HM5.out.next (rf_keeps _ _ _ _ _ _ _) (below_drewN (Below.refl _ w5) nq))
          clear HM5 j1 j2 hpb HRA HRC
          generalize w5.drewN nq = w6 at *
          generalize regOf st.a = ra at *
          generalize regOf st.b = rc at *
          have g6 : (ra : Int) < 8 := by omega
          have g7 : (0 : Int) ≤ (ra : Int) := by omega
          have g8 : (rc : Int) < 8 := by omega
          have g9 : (0 : Int) ≤ (rc : Int) := by omega
          obtain ⟨j0, q1, q2, j4, hpb⟩ := HM6.out.stepCells
          clear q1 q2
          have HINV := Lib.hid (show GInv m x.s from HM6.out.store.inv)
          have HVX := Lib.hid HM6.out.valsOf
          have HCY := Lib.hid (show x.cy ≤ 100000000 by omega)
          obtain ⟨ka, kaf⟩ := HM6.out.at_ ra hra
          obtain ⟨kc, kcf⟩ := HM6.out.at_ rc hrc
          have hxa := HM6.out.mem ra hra
          have hxc := HM6.out.mem rc hrc
          by_cases hk0 : st.k = 0
          · as_aux_lemma =>
              have B0 : (st.k == 0) = true := by simp [hk0]
              have hal := sx_Alloc (rf_keeps pb st pr k r m x) HT1.out HM6.out HCY.out 6 (nn : Int)
              have hrl := fun (W : World) (z : SS) (U : Nat → Prop) (hW : MidX (RF pb st pr k r m x) w1 p g q m rb z regs W U) => f_Alloc hW HVX.out HCY.out 6 (nn : Int)
              have hcya := alloc_cy m x 6 (nn : Int) regs
              have hsi := HSF.out.salloc HINV.out (by omega) (nn : Int) ra
              have hsm : (x.alloc m 6 (nn : Int) regs).1 < 18446744073709551616 := by
                rcases salloc_cases HINV.out 6 (nn : Int) regs with ⟨e, y, _, _, ha⟩ | ⟨a, kk, n2, y, _, _, hlt, _, _, ha⟩
                · rw [ha]; show (0 : Nat) < 18446744073709551616; omega
                · rw [ha]; show 2 * a < _; omega
              generalize hz : x.alloc m 6 (nn : Int) regs = z at *
              clear hz
              obtain ⟨z1, z2, z3⟩ := z
              simp only at hsi hcya hsm hal hrl
              have HAL := Lib.hid hal
              have HRL := Lib.hid hrl
              have HSI := Lib.hid hsi
              clear hal hrl hsi hk0 ka kaf kc kcf hxa hxc
              go_wp2_with fail
              rw [HNN.out]
              refine HAL.out.mono ?_
              rintro e7 w7 ⟨rfl, hm7⟩
              have HM7 := Lib.hid hm7
              have j4 := hm7.stepCells.2.2.2.1
              clear hm7
              go_wp2_with fail
              rw [HNN.out]
              refine (HRL.out _ _ _ HM7.out).mono ?_
              rintro e8 w8 ⟨rfl, U8, hm8⟩
              have HM8 := Lib.hid hm8
              obtain ⟨ka, kaf⟩ := hm8.at_ ra hra
              clear hm8 j4
              by_cases hz2 : z2 = 0
              · have HS2 := Lib.hid (HSI.out.2 hz2)
                subst hz2
                have HPK := Lib.hid (HM8.out.poke (rf_keeps pb st pr k r m z3) ra z1 hsm)
                go_wp2_with fail
                go_meet
                exact Lib.hid ⟨z3, _, _, HPK.out.unbox, HS2.out, by omega⟩
              · have HS2 := Lib.hid (HSI.out.1 hz2)
                have B1 : (z2 == 0) = false := by rw [beq_eq_false_iff_ne]; exact hz2
                clear hz2
                go_wp2_with fail
                go_meet
                exact Lib.hid ⟨z3, _, _, HM8.out.unbox, HS2.out, by omega⟩
          · have B0 : (st.k == 0) = false := by simp [hk0]
            clear hk0
            by_cases hk1 : st.k = 1
            · as_aux_lemma =>
                have B1 : (st.k == 1) = true := by simp [hk1]
                have hmem : regs.getD rc 0 ∈ regs := getD_mem (by rw [HM6.out.len]; exact hrc)
                have HS2 := Lib.hid (HSF.out.write (addrW (regs.getD ra 0) : Nat) st.m _ hmem)
                have HSE := Lib.hid (fun (W : World) (hW : MidX (RF pb st pr k r m x) w1 p g q m rb x regs W U5) => sx_Set (rf_keeps pb st pr k r m x) hW (regs.getD ra 0) hxa st.m (regs.getD rc 0) hxc)
                have HRS := Lib.hid (fun (W : World) (z : SS) (U : Nat → Prop) (hW : MidX (RF pb st pr k r m x) w1 p g q m rb z regs W U) => f_Set hW HVX.out (regs.getD ra 0) hxa st.m (regs.getD rc 0))
                have HAT := Lib.hid (fun (W : World) (z z' : SS) (U : Nat → Prop) (hW : MidX (RF pb st pr k r m z') w1 p g q m rb z regs W U) => (⟨(hW.at_ ra hra).1, hW.stepCells.2.2.2.1, (hW.at_ rc hrc).1⟩ : _ ∧ _ ∧ _))
                clear hmem hk1 hxa hxc kaf kcf
                generalize x.s.write (addrW (regs.getD ra 0) : Nat) st.m (regs.getD rc 0) = z at *
                obtain ⟨z1, z2⟩ := z
                simp only at HSE HRS HS2
                generalize regs.getD ra 0 = xa at *
                generalize regs.getD rc 0 = xc at *
                go_upto_region 23 with fail
                have E1 : IntKind.i64.wrap (ra : Int) = (ra : Int) := by rw [IntKind.wrap_i64]; omega
                have E2 : IntKind.i64.wrap (rc : Int) = (rc : Int) := by rw [IntKind.wrap_i64]; omega
                go_region_held3 (fun W => W.cell? ⟨rb, ra, none⟩ = some (.int .u64 (xa : Int)) ∧ W.cell? ⟨pb, 4, none⟩ = some (.int .i64 st.m) ∧ W.cell? ⟨rb, rc, none⟩ = some (.int .u64 (xc : Int))) (go_keep)
                  ((go_at_call 11; refine (HSE.out _ ?_).mono ?_; exact HM6.out.next (rf_keeps pb st pr k r m x) (Below.refl w6.heap.size w6).drew; rintro e7 w7 ⟨rfl, hs7⟩; have H7 := Lib.hid hs7; clear hs7; obtain ⟨i1, i2, i3⟩ := HAT.out _ _ _ _ H7.out))
                all_goals
                  clear ka kc j4
                  obtain ⟨ka, j4, kc⟩ := HAT.out _ _ _ _ H7.out
                  go_upto_region 24 with fail
                  go_region_held3 (fun W => W.cell? ⟨rb, ra, none⟩ = some (.int .u64 (xa : Int)) ∧ W.cell? ⟨pb, 4, none⟩ = some (.int .i64 st.m) ∧ W.cell? ⟨rb, rc, none⟩ = some (.int .u64 (xc : Int))) (go_keep)
                    ((go_at_call 12; refine (HRS.out _ ⟨z2, x.cy⟩ U5 ?_).mono ?_; exact H7.out.next (rf_keeps pb st pr k r m x) (Below.refl w7.heap.size w7).drew; rintro e8 w8 ⟨rfl, U8, hs8⟩; have H8 := Lib.hid hs8; clear hs8; obtain ⟨l1, l2, l3⟩ := HAT.out _ _ _ _ H8.out))
                  all_goals
                    go_wp2_with fail
                    go_meet
                    exact Lib.hid ⟨⟨z2, x.cy⟩, _, _, H8.out.unbox, HS2.out, by show x.cy ≤ _; omega⟩
            · have B1 : (st.k == 1) = false := by simp [hk1]
              clear hk1
              by_cases hk3 : st.k = 3
              · as_aux_lemma =>
                  have B3 : (st.k == 3) = true := by simp [hk3]
                  have hpk := sx_Pick (rf_keeps pb st pr k r m x) HT1.out HM6.out (by have := HCY.out; omega)
                  have hrp := fun (W : World) (z : SS) (U : Nat → Prop) (hW : MidX (RF pb st pr k r m x) w1 p g q m rb z regs W U) => f_Pick hW HVX.out (by have := HCY.out; omega)
                  have hcyp := pick_cy x regs
                  have HS2 := Lib.hid (HSF.out.spick HINV.out)
                  have HPI := Lib.hid hpk
                  have HRP := Lib.hid hrp
                  clear hk3 hpk hrp ka kaf kc kcf j4
                  generalize x.pick regs = y at *
                  go_wp2_with fail
                  refine HPI.out.mono ?_
                  rintro e7 w7 ⟨rfl, hm7⟩
                  have HM7 := Lib.hid hm7
                  clear hm7
                  go_wp2_with fail
                  refine (HRP.out _ _ _ HM7.out).mono ?_
                  rintro e8 w8 ⟨rfl, U8, hm8⟩
                  have HM8 := Lib.hid hm8
                  clear hm8
                  go_wp2_with fail
                  go_meet
                  exact Lib.hid ⟨y, regs, _, HM8.out.unbox, HS2.out, by omega⟩
              · have B3 : (st.k == 3) = false := by simp [hk3]
                have HPK := Lib.hid (HM6.out.poke (rf_keeps pb st pr k r m x) ra 1 (by decide))
                have HS2 := Lib.hid (HSF.out.number ra 1 rfl)
                clear hk3 kc kcf j4
                go_wp2_with fail
                go_meet
                exact Lib.hid ⟨x, _, _, HPK.out.unbox, HS2.out, by omega⟩
        case rest =>
          have HR := hcut
          clear hcut HSF HBX
          go_wp2_with fail
          go_roundw
          case rel => exact ⟨i + 1, by omega, by omega, by go_num, HR⟩
          case measure => simp [intOf]; omega
      · have g4 : decide ((i : Int) < (n : Int)) = false := decide_eq_false (by omega)
        go_wp2_with fail
        go_meet
        exact HEND
      · have g4 : decide ((i : Int) < (n : Int)) = true := decide_eq_true (by omega)
        have g5 : decide ((i : Int) < 200) = false := decide_eq_false (by omega)
        go_wp2_with fail
        go_meet
        exact HEND
  case rest =>
    have HR := hcut
    clear hcut HM HS
    obtain ⟨x, regs, T, hmp, hsf, hcy⟩ := HR.out
    have HMP := Lib.hid hmp
    have HSF := Lib.hid hsf
    have HL := Lib.hid (show Lies m 1 x.s.L from hmp.store.inv.lies)
    have HV := Lib.hid hmp.valsOf
    obtain ⟨c0, _, _, _, c4⟩ := hmp.side.head
    have HCL : Hid (Calls Tryz.prog 20 #[.pointer (some ⟨r, 0, none⟩), .slice (some ⟨rb, 0, none⟩) 8 8] wc (ClosIs x.s.L regs wc)) := Lib.hid (by
      obtain ⟨_, V, hk, _, _⟩ := hmp.side
      obtain ⟨S, hr⟩ := hk.heapAt
      exact closure_any r S m x.s.L (some ⟨rb, 0, none⟩) 8 8 regs (Beside w1 rb T) wc hr HL.out (by omega) hmp.roots (by decide) HV.out)
    clear hmp hsf HR
    go_wp2_with fail
    refine HCL.out.mono ?_
    rintro e w5 ⟨v, out, rfl, hgr, hnd, hol, hout⟩
    have HM5 := Lib.hid (HMP.out.next (rst_keeps pr k r m x) hgr.2.1)
    obtain ⟨Ao, co, rfl, hso⟩ := hgr.1.seen
    have HSO := Lib.hid hso
    have HFB := Lib.hid (full_bound HSF.out HMP.out.store.inv sz hsz hnd hout)
    have HOU := Lib.hid hout
    have hlen := lies_len HL.out (show m ≤ 65536 by omega)
    clear hgr hnd hout hso HMP HCL c0 c4
    have hxcy : x.cy ≤ 400 := by omega
    go_wp2_with fail
    go_loopw [156, 18] (fun vi vl wr => ∃ t : Nat, t ≤ out.length ∧ vi = .int .i64 t ∧ vl = .int .i64 (sumSizes x.s.L (out.take t) : Nat) ∧ Hid (MidX (RSt pr k r m x) w1 p g q m rb x regs wr T ∧ Below w5.heap.size w5 wr)) (fun vi _ _ => out.length - (intOf vi).toNat)
    case atStart => exact ⟨0, by omega, by go_num, rfl, Lib.hid ⟨HM5.out, Below.refl _ _⟩⟩
    case round =>
      obtain ⟨t, ht, rfl, rfl, HMI⟩ := hrel
      by_cases hto : t < out.length
      · as_aux_lemma =>
          have g2 : decide ((t : Int) < (out.length : Int)) = true := decide_eq_true (by omega)
          have g2' : decide (t < out.length) = true := decide_eq_true hto
          obtain ⟨bo, rfl, hbo, kob⟩ := HSO.out t hto
          have kb := (HMI.out.2.cell (p := ⟨bo, t, none⟩) hbo).trans kob
          have hbw : bo < wr.heap.size := Nat.lt_of_lt_of_le hbo HMI.out.2.size
          have hin : IsIn x.s.L (out.getD t 0) := ((HOU.out _).1 (getD_mem hto)).isIn
          obtain ⟨j, o, hjo, hao, hsz2⟩ := reached_at hin
          obtain ⟨d0, dx, dy, dz, d4⟩ := HMI.out.1.side.head
          obtain ⟨_, V, hkat, _, _⟩ := HMI.out.1.side
          obtain ⟨S, hra⟩ := hkat.heapAt
          obtain ⟨Ar, cr, cx, c1, hs⟩ := hra.seen
          obtain ⟨gr, rfl, hgw, cy1, cy2, Fs, cf, k2, cy3⟩ := hs j o hjo
          clear cx cy1 cy2 cy3 dx dy dz
          have hjl : j < x.s.L.length := (List.getElem?_eq_some_iff.1 hjo).1
          have HFD := Lib.hid (fun (W : World) (hW : RefAt W r S m x.s.L) => find_same r S m x.s.L W hW HL.out hlen hjo)
          have HRA := Lib.hid hra
          have hst := sum_take (L := x.s.L) hto
          rw [hsz2] at hst
          have hsl := take_bound HL.out (show m ≤ 65536 by omega) hol (t + 1)
          have HST := Lib.hid hst
          rw [← hao] at kb
          have hrr : r < wr.heap.size := hra.lt
          clear hs hjo hsz2 hin hao kob hst hra hkat
          have g4 : (j : Int) < (x.s.L.length : Int) := by omega
          have g5 : (0 : Int) ≤ (j : Int) := by omega
          have g6 : (t : Int) < (out.length : Int) := by omega
          have g7 : (0 : Int) ≤ (t : Int) := by omega
          have hfl : o.fs.length ≤ 4295032832 := by have := HST.out; omega
          have hHST := HST.out
          generalize hsa : sumSizes x.s.L (out.take t) = sa at *
          generalize hsb : sumSizes x.s.L (out.take (t + 1)) = sb at *
          have HE := Lib.hid (show wrap64 ((sa : Int) + (1 + (o.fs.length : Int))) = (sb : Int) by unfold wrap64; omega)
          have E1 : IntKind.i64.wrap (t : Int) = (t : Int) := by rw [IntKind.wrap_i64]; omega
          have E2 : IntKind.i64.wrap (j : Int) = (j : Int) := by rw [IntKind.wrap_i64]; omega
          have HSB := Lib.hid hsb
          clear hsb hHST hsa HST
          go_upto_region 33 with fail
          go_quiet ((go_at_call 21; exact Calls.quiet_of_same ((HFD.out _ (HRA.out.below (below_draws (Below.refl _ _) _))).mono fun e w' hh => ⟨hh.1, hh.2.symm⟩)))
          rw [HE.out]
          go_wp2_with fail
          go_roundw
          case rel => exact ⟨t + 1, by omega, by go_num, by rw [HSB.out], Lib.hid ⟨HMI.out.1.next (rst_keeps pr k r m x) (below_draws (Below.refl _ _) _), HMI.out.2.trans ((below_draws (Below.refl _ _) _).mono HMI.out.2.size)⟩⟩
          case measure => simp [intOf]; omega
      · have g2 : decide ((t : Int) < (out.length : Int)) = false := decide_eq_false (by omega)
        have g2' : decide (t < out.length) = false := decide_eq_false hto
        obtain rfl : t = out.length := by omega
        rw [List.take_length]
        have HM6 := Lib.hid HMI.out.1
        have hal := sx_Alloc (rst_keeps pr k r m x) HT1.out HM6.out (by omega) 6 (sz : Int)
        have hbnd := take_bound HL.out (show m ≤ 65536 by omega) hol out.length
        rw [List.take_length] at hbnd
        have hfb := HFB.out
        generalize hz : x.alloc m 6 (sz : Int) regs = z at *
        obtain ⟨z1, z2, z3⟩ := z
        simp only at hal hfb
        have HAL := Lib.hid hal
        have HFB2 := Lib.hid hfb
        clear hz hal hfb HFB HMI HM5 HSO HOU hto
        generalize sumSizes x.s.L out = sm at *
        go_wp2_with fail
        refine HAL.out.mono ?_
        rintro e7 w7 ⟨rfl, hm7⟩
        have HEB := Lib.hid (HBB.out _ hm7.below)
        clear hm7
        by_cases hz2 : z2 = 0
        · subst hz2
          go_wp2_with fail
          go_ret
          exact ⟨rfl, HEB.out⟩
        · obtain ⟨h6, hle⟩ := HFB2.out.resolve_left hz2
          subst h6
          clear hz2
          have HEQ := Lib.hid (full_end m out.length sz sm h.1 h.2 hol hsz hbnd hle)
          clear hle hbnd HFB2
          go_wp2_with fail
          go_ret
          exact ⟨congrArg (fun b => Ending.returned (Value.bool b)) HEQ.out, HEB.out⟩
end Go.Proofs.YtbmkjlpjgkfjcaaGreatDoor
