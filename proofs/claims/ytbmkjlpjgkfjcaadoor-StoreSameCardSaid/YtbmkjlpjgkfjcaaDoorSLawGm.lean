/-
  The walk of the law StoreSame: whatever the input, it returns true and leaves what was there as it was. Condition: the table of math/bits holds what its initialiser lays.
-/
import Derived.Test.YtbmkjlpjgkfjcaaDoorSBAll
import Derived.Deep.CutBlock
import Derived.Deep.RegionHeld3
import Derived.BigQuiet
namespace Go.Proofs.YtbmkjlpjgkfjcaaDoor
open Go.RowKit
theorem held_after {w7 w8 : World} {vb pb k : Nat} {x y z : Value} (h : Below ((w7.alloc (.cells #[.bool false, .int .i64 0] 83)).drew).heap.size (w7.alloc (.cells #[.bool false, .int .i64 0] 83)).drew w8) (hv : vb < w7.heap.size) (hp : pb < w7.heap.size) (c0 : w7.cell? ⟨vb, k * 2, none⟩ = some x) (c1 : w7.cell? ⟨vb, k * 2 + 1, none⟩ = some y) (c2 : w7.cell? ⟨pb, 4, none⟩ = some z) :
    w8.cell? ⟨vb, k * 2, none⟩ = some x ∧ w8.cell? ⟨vb, k * 2 + 1, none⟩ = some y ∧ w8.cell? ⟨pb, 4, none⟩ = some z ∧ w8.cell? ⟨w7.heap.size, 0, none⟩ = some (.bool false) ∧ w8.cell? ⟨w7.heap.size, 1, none⟩ = some (.int .i64 0) ∧ w8.frozen? ⟨w7.heap.size, 0, none⟩ = false ∧ w8.frozen? ⟨w7.heap.size, 1, none⟩ = false ∧ w7.heap.size < w8.heap.size := by
  have h1 := (below_one (w := w7) (.cells #[.bool false, .int .i64 0] 83)).drew
  have h2 := h1.trans (h.mono h1.size)
  have hz : w7.heap.size < ((w7.alloc (.cells #[.bool false, .int .i64 0] 83)).drew).heap.size := by
    show w7.heap.size < (w7.alloc _).heap.size
    simp
  have hn : w8.heap[w7.heap.size]? = some (.cells #[.bool false, .int .i64 0] 83 (0, 0)) := (h.block _ hz).trans (heap_alloc_new w7 _)
  refine ⟨(h2.cell (p := ⟨vb, k * 2, none⟩) hv).trans c0, (h2.cell (p := ⟨vb, k * 2 + 1, none⟩) hv).trans c1, (h2.cell (p := ⟨pb, 4, none⟩) hp).trans c2, ?_, ?_, Lib.frozen_of_heap hn 0, Lib.frozen_of_heap hn 1, Nat.lt_of_lt_of_le hz h.size⟩
  · rw [Lib.cell_of_heap hn]; rfl
  · rw [Lib.cell_of_heap hn]; rfl
/-- A value more lies beside what was there. -/
def Fresh (w7 w9 : World) (pv : Nat) (gb : Bool) (gv : Int) : Prop := Below w7.heap.size w7 w9 ∧ w9.heap[pv]? = some (.cells #[.bool gb, .int .i64 gv] 83 (0, 0)) ∧ w7.heap.size ≤ pv
theorem fresh_a {w7 w8 : World} (gb : Bool) (gv : Int) (h : Below w7.drew.heap.size w7.drew w8) : Fresh w7 (w8.alloc (.cells #[.bool gb, .int .i64 gv] 83)) w8.heap.size gb gv := by
  have h1 := (Below.refl w7.heap.size w7).drew
  have h2 := h1.trans (h.mono h1.size)
  exact ⟨h2.trans ((below_one _).mono h2.size), heap_alloc_new w8 _, h2.size⟩
theorem fresh_b {w7 w8 : World} (gb : Bool) (gv : Int) (h : Below ((w7.alloc (.cells #[.bool false, .int .i64 0] 83)).drew).heap.size (w7.alloc (.cells #[.bool false, .int .i64 0] 83)).drew w8) : Fresh w7 ((w8.setCell ⟨w7.heap.size, 0, none⟩ (.bool gb)).setCell ⟨w7.heap.size, 1, none⟩ (.int .i64 gv)) w7.heap.size gb gv := by
  have h1 := (below_one (w := w7) (.cells #[.bool false, .int .i64 0] 83)).drew
  have h2 := h1.trans (h.mono h1.size)
  have hz : w7.heap.size < ((w7.alloc (.cells #[.bool false, .int .i64 0] 83)).drew).heap.size := by
    show w7.heap.size < (w7.alloc _).heap.size
    simp
  have hn : w8.heap[w7.heap.size]? = some (.cells #[.bool false, .int .i64 0] 83 (0, 0)) := (h.block _ hz).trans (heap_alloc_new w7 _)
  have hn1 := heap_setCell_same w8 w7.heap.size 0 _ _ (.bool gb) hn
  have hn2 := heap_setCell_same _ w7.heap.size 1 _ _ (.int .i64 gv) hn1
  exact ⟨(h2.setCell (p := ⟨w7.heap.size, 0, none⟩) (Nat.le_refl _) _).setCell (p := ⟨w7.heap.size, 1, none⟩) (Nat.le_refl _) _, hn2, Nat.le_refl _⟩
/-- The law's own blocks, as they are made. -/
def sameStart (w2 : World) : World := ((w2.alloc (.cells #[.slice none 0 0, .slice none 0 0] 80)).alloc (.cells #[.int .u64 1, .int .u64 1, .int .u64 1, .int .u64 1, .int .u64 1, .int .u64 1, .int .u64 1, .int .u64 1] 30)).alloc (.cells (tvsCells (halfRow 8 0)).toArray 83)
theorem mids_start {w w2 : World} {p g q m : Nat} {x : SS} (h : MidSt w p g q m x w2) : ∃ T, MidX (TwinK 0 w2.heap.size (w2.heap.size + 2) [] (halfRow 8 0)) w p g q m (w2.heap.size + 1) x (List.replicate 8 1) (sameStart w2) T := by
  have z2 := h.2.size
  have hb3 := below_one (w := w2) (.cells #[.slice none 0 0, .slice none 0 0] 80)
  have hb4 := below_one (w := w2.alloc (.cells #[.slice none 0 0, .slice none 0 0] 80)) (.cells #[.int .u64 1, .int .u64 1, .int .u64 1, .int .u64 1, .int .u64 1, .int .u64 1, .int .u64 1, .int .u64 1] 30)
  have hb5 := below_one (w := (w2.alloc (.cells #[.slice none 0 0, .slice none 0 0] 80)).alloc (.cells #[.int .u64 1, .int .u64 1, .int .u64 1, .int .u64 1, .int .u64 1, .int .u64 1, .int .u64 1, .int .u64 1] 30)) (.cells (tvsCells (halfRow 8 0)).toArray 83)
  have hb : Below w2.heap.size w2 (sameStart w2) := (hb3.trans (hb4.mono (by simp))).trans (hb5.mono (by simp; omega))
  have hz : (sameStart w2).heap.size = w2.heap.size + 3 := by simp [sameStart]
  have k3 : (sameStart w2).heap[w2.heap.size]? = some (.cells #[.slice none 0 0, .slice none 0 0] 80 (0, 0)) := (hb5.block _ (by simp; omega)).trans ((hb4.block _ (by simp)).trans (heap_alloc_new w2 _))
  have k4 : (sameStart w2).heap[w2.heap.size + 1]? = some (.cells #[.int .u64 1, .int .u64 1, .int .u64 1, .int .u64 1, .int .u64 1, .int .u64 1, .int .u64 1, .int .u64 1] 30 (0, 0)) := (hb5.block _ (by simp)).trans (by have := heap_alloc_new (w2.alloc (.cells #[.slice none 0 0, .slice none 0 0] 80)) (.cells #[.int .u64 1, .int .u64 1, .int .u64 1, .int .u64 1, .int .u64 1, .int .u64 1, .int .u64 1, .int .u64 1] 30); simpa using this)
  have k5 : ValRow (sameStart w2) (w2.heap.size + 2) (halfRow 8 0) := by
    have := heap_alloc_new ((w2.alloc (.cells #[.slice none 0 0, .slice none 0 0] 80)).alloc (.cells #[.int .u64 1, .int .u64 1, .int .u64 1, .int .u64 1, .int .u64 1, .int .u64 1, .int .u64 1, .int .u64 1] 30)) (.cells (tvsCells (halfRow 8 0)).toArray 83)
    unfold ValRow sameStart
    simpa using this
  refine ⟨fun b => b = w2.heap.size ∨ b = w2.heap.size + 2, ?_, ?_, ?_, by simp, fun y hy => ?_, h.2.trans (hb.mono z2), by omega, by omega, fun b hT => by omega⟩
  · refine h.1.more hb fun b hb => ?_
    rcases hb with (hb | rfl) | (rfl | rfl)
    · exact .inl hb
    · exact .inr ⟨by omega, by omega⟩
    · exact .inr ⟨by omega, by omega⟩
    · exact .inr ⟨by omega, by omega⟩
  · refine ⟨[], .slice none 0 0, .slice none 0 0, .inl rfl, .inr rfl, k3, ⟨⟨rfl, .inl ⟨rfl, rfl⟩⟩, (fun b hb => by cases hb)⟩, ⟨⟨rfl, .inl ⟨rfl, rfl⟩⟩, (fun b hb => by cases hb)⟩, rfl, k5, (fun i g l h1 => by cases h1), List.nodup_nil, by simp⟩
  · exact ⟨rfl, .inr ⟨_, 8, _, rfl, Nat.zero_le _, k4, Nat.le_refl _, by unfold maxLen; decide, rfl, rfl⟩⟩
  · rw [List.eq_of_mem_replicate hy]; decide
set_option maxHeartbeats 8000000 in
set_option maxRecDepth 100000 in
theorem same_walk (m : Nat) (A : Option Addr) (n c : Nat) (w : World) (hT : Tab w) (h : 2 ≤ m ∧ m ≤ 2048) (hS : Script4 w (fun b => b < w.heap.size) A n) (hn : n ≤ 9223372036854775807) :
    Calls Tryd.prog 10 #[.int .i64 (m : Int), .slice A n c] w (YesMade true w) := by
  have HT := Lib.hid hT
  have HS := Lib.hid hS
  have g1 : decide (2048 < (m : Int)) = false := decide_eq_false (by omega)
  obtain ⟨i0, hi0, hz0, hz1, hz2⟩ := info_parts infoInt
  obtain ⟨r0, ri0, rz0, rz1, rz2⟩ := info_parts infoRow
  clear hT hS
  go_enter Tryd.func10, Tryd.ntmps10
  go_wp2_with fail
  refine (awake4_any _ HT.out).mono ?_
  rintro e w1 ⟨rfl, hb⟩
  have HB := Lib.hid hb
  have HT1 := Lib.hid (HT.out.below hb HT.out.lt)
  clear hb
  have hnew : Calls Tryd.prog 52 #[.int .i64 (m : Int)] w1 (SNew m w1) := st_New m (by omega) (by omega) w1
  have HNW := Lib.hid hnew
  clear hnew
  go_wp2_with fail
  refine HNW.out.mono ?_
  rintro e w2 ⟨p, g, q, rfl, h2, hb2, hx⟩
  have H2 : Hid (MidSt w1 p g q m vz0 w2) := Lib.hid ⟨h2, hb2⟩
  clear h2 hb2 HNW hx
  have HM : Hid (∃ T, MidX (TwinK 0 w2.heap.size (w2.heap.size + 2) [] (halfRow 8 0)) w1 p g q m (w2.heap.size + 1) vz0 (List.replicate 8 1) (sameStart w2) T) := Lib.hid (mids_start H2.out)
  have hmk : (Instr.makeSlice 81 (.int .i64 8) (.int .i64 8)).run Tryd.prog ((w2.alloc (.cells #[.slice none 0 0, .slice none 0 0] 80)).alloc (.cells #[.int .u64 1, .int .u64 1, .int .u64 1, .int .u64 1, .int .u64 1, .int .u64 1, .int .u64 1, .int .u64 1] 30)) = .ok (.slice (some ⟨w2.heap.size + 2, 0, none⟩) 8 8) (sameStart w2) := by
    have h8 := make_vals 8 (by decide) ((w2.alloc (.cells #[.slice none 0 0, .slice none 0 0] 80)).alloc (.cells #[.int .u64 1, .int .u64 1, .int .u64 1, .int .u64 1, .int .u64 1, .int .u64 1, .int .u64 1, .int .u64 1] 30))
    have hz : ((w2.alloc (.cells #[.slice none 0 0, .slice none 0 0] 80)).alloc (.cells #[.int .u64 1, .int .u64 1, .int .u64 1, .int .u64 1, .int .u64 1, .int .u64 1, .int .u64 1, .int .u64 1] 30)).heap.size = w2.heap.size + 2 := by simp
    rw [hz] at h8
    exact h8
  clear H2
  go_upto_block 0 with fail
  clear hmk
  generalize sameStart w2 = w3 at *
  generalize w2.heap.size + 1 = rb at *
  generalize w2.heap.size + 2 = vb at *
  generalize w2.heap.size = tb at *
  have HBB := Lib.hid (fun (wr : World) (hb : Below w1.heap.size w1 wr) => HB.out.trans (hb.mono HB.out.size))
  have HD : Hid (w.heap.size ≤ w1.heap.size) := Lib.hid HB.out.size
  clear HB
  go_wp2_with fail
  go_loopw [40] (fun v40 wr => ∃ k : Nat, k ≤ 8 ∧ v40 = .int .i64 k ∧ Hid (∃ T, MidX (TwinK 0 tb vb [] (halfRow 8 k)) w1 p g q m rb vz0 (List.replicate 8 1) wr T)) (fun v40 _ => 8 - (intOf v40).toNat)
  case atStart => exact ⟨0, by omega, by go_num, HM⟩
  case round =>
    obtain ⟨k, hk, rfl, HMI⟩ := hrel
    clear HM
    by_cases hk8 : k < 8
    · have g2 : decide ((k : Int) < 8) = true := decide_eq_true (by omega)
      have g3 : (k : Int) < 8 := by omega
      have g4 : (0 : Int) ≤ (k : Int) := by omega
      obtain ⟨U, hm⟩ := HMI.out
      obtain ⟨kc, kf⟩ := hm.halfV hk8
      have HN := Lib.hid (hm.markV hk8)
      clear hm
      go_wp2_with fail
      go_roundw
      case rel => exact ⟨k + 1, by omega, by go_num, HN⟩
      case measure => simp [intOf]; omega
    · have g2 : decide ((k : Int) < 8) = false := decide_eq_false (by omega)
      have h8 : k = 8 := by omega
      have HM2 : Hid (MidW w1 p g q m rb tb vb 0 wr) := Lib.hid (by
        obtain ⟨U, hm⟩ := HMI.out
        rw [h8, half_end] at hm
        exact ⟨_, _, [], _, _, U, hm, same_start, rfl, Nat.le_refl _, Nat.le_refl _⟩)
      clear h8 HMI
      go_wp2_with fail
      obtain ⟨ov40, rfl⟩ : ∃ ov : Value, ov = .int .i64 (k : Int) := ⟨_, rfl⟩
      go_loopw [10] (fun v10 wr => ∃ i : Nat, i ≤ n ∧ i ≤ 200 ∧ v10 = .int .i64 i ∧ Hid (MidW w1 p g q m rb tb vb i wr)) (fun v10 _ => n - (intOf v10).toNat)
      case atStart => exact ⟨0, by omega, by omega, by go_num, HM2⟩
      case round =>
        obtain ⟨i, hin, hi4, rfl, HMI⟩ := hrel
        clear HM2
        have hcase : (i < n ∧ i < 200) ∨ n ≤ i ∨ (i < n ∧ 200 ≤ i) := by omega
        rcases hcase with ⟨hi1, hi2⟩ | hc | ⟨hc, hc4⟩
        · have g4 : decide ((i : Int) < (n : Int)) = true := decide_eq_true (by omega)
          have g5 : decide ((i : Int) < 200) = true := decide_eq_true (by omega)
          obtain ⟨st, b, off, rfl, hbl, hxx, e0, e1, e2, e3, e4, e5, htz⟩ := HS.out i hi1
          obtain ⟨x, regs, T, Q, f, U, hmp, hsm, hq8, htl, hcy⟩ := HMI.out
          have hbw := HBB.out _ hmp.below
          have k0 := (hbw.cell (p := ⟨b, off + i * 6, none⟩) hbl).trans e0
          have k1 := (hbw.cell (p := ⟨b, off + i * 6 + 1, none⟩) hbl).trans e1
          have k2 := (hbw.cell (p := ⟨b, off + i * 6 + 2, none⟩) hbl).trans e2
          have k3 := (hbw.cell (p := ⟨b, off + i * 6 + 3, none⟩) hbl).trans e3
          have k4 := (hbw.cell (p := ⟨b, off + i * 6 + 4, none⟩) hbl).trans e4
          have k5 := (hbw.cell (p := ⟨b, off + i * 6 + 5, none⟩) hbl).trans e5
          have hbr : b < wr.heap.size := Nat.lt_of_lt_of_le hbl hbw.size
          clear hbw e0 e1 e2 e3 e4 e5 hxx
          have HRA := Lib.hid (fun W => reg_any st.a W)
          have HRC := Lib.hid (fun W => reg_any st.b W)
          have hra := regOf_lt st.a
          have hrc := regOf_lt st.b
          obtain ⟨nn, hnn4, hnn⟩ := six4_of st.m
          have HNN := Lib.hid hnn
          have HSM := Lib.hid hsm
          have HQ8 := Lib.hid hq8
          have HBX := Lib.hid (hmp.boxS st)
          clear hnn hmp hsm hq8 HMI
          go_upto_region 18 with fail
          obtain ⟨U5, hm5⟩ := HBX.out
          clear HBX k0 k1 k2 k3 k4 k5
          generalize wr.alloc (.cells #[.int .i64 st.k, .int .i64 st.a, .int .i64 st.b, .int .i64 st.n, .int .i64 st.m, .string st.t] 85) = w5 at *
          generalize wr.heap.size = pb at *
          obtain ⟨q0, j1, j2, q3, j4, hpb⟩ := hm5.boxed
          clear q0 q3
          have HM5 := Lib.hid hm5
          clear hm5
          go_quiet (first | (go_at_call 53; exact Calls.quiet_of_same ((HRA.out _).mono fun e w' hh => ⟨hh.1, hh.2.symm⟩)) | (go_at_call 53; exact Calls.quiet_of_same ((HRC.out _).mono fun e w' hh => ⟨hh.1, hh.2.symm⟩)))
          have HM6 := Lib.hid (HM5.out.next (rk_keeps _ _ _ _ _ _ _) (below_drewN (Below.refl _ w5) nq))
          clear HM5 j1 j2 j4 hpb HRA HRC
          generalize w5.drewN nq = w6 at *
          generalize regOf st.a = ra at *
          generalize regOf st.b = rc at *
          have g6 : (ra : Int) < 8 := by omega
          have g7 : (0 : Int) ≤ (ra : Int) := by omega
          have g8 : (rc : Int) < 8 := by omega
          have g9 : (0 : Int) ≤ (rc : Int) := by omega
          obtain ⟨j0, q1, q2, q3, j4, hpb⟩ := HM6.out.boxed
          clear q1 q2 q3
          go_upto_block 4 with fail
          rw [HNN.out]
          have HLIM := Lib.hid (show m ≤ 65536 by omega)
          have HINV := Lib.hid (show GInv m x.s from HM6.out.store.inv)
          have HCY := Lib.hid (show x.cy ≤ 100000000 by omega)
          go_cut [15, 16, 17, 18, 19, 20, 21, 22, 23] from 75 to 228 (fun _ _ _ _ _ _ _ _ _ wx => Hid (MidW w1 p g q m rb tb vb (i + 1) wx))
          case first =>
            obtain ⟨ka, kaf⟩ := HM6.out.at_ ra hra
            obtain ⟨kc, kcf⟩ := HM6.out.at_ rc hrc
            have hxa := HM6.out.mem ra hra
            have hxc := HM6.out.mem rc hrc
            obtain ⟨HVR, hvl, hvne⟩ := HM6.out.vals
            have HVR := Lib.hid HVR
            have hla : ra < Q.length := by rw [HQ8.out]; exact hra
            have hlc : rc < Q.length := by rw [HQ8.out]; exact hrc
            have HQA : Hid (Q[ra]? = some Q[ra]) := Lib.hid (List.getElem?_eq_getElem hla)
            have HQC : Hid (Q[rc]? = some Q[rc]) := Lib.hid (List.getElem?_eq_getElem hlc)
            generalize Q[ra] = va at *
            generalize Q[rc] = vc at *
            clear hla hlc
            by_cases hk0 : st.k = 0
            · have B0 : (st.k == 0) = true := by simp [hk0]
              have hal := sx_Alloc (rk_keeps _ _ _ _ _ _ _) HT1.out HM6.out HCY.out 6 (nn : Int)
              have hcya := alloc_cy m x 6 (nn : Int) regs
              clear hk0
              rcases HSM.out.salloc HINV.out HLIM.out (nn : Int) ra with ⟨e, y, he, ha, hs⟩ | ⟨a, nn', y, hnn', ham, ha, hs⟩
              · as_aux_lemma =>
                  rw [ha] at hal hcya
                  have HAL := Lib.hid hal
                  have HS2 := Lib.hid hs
                  have B1 : (e == 0) = false := by rw [beq_eq_false_iff_ne]; exact he
                  have hcyy : y.cy ≤ x.cy + 2 := hcya
                  clear hal he ha hs hcya ka kaf kc kcf j0 j4
                  go_wp2_with fail
                  refine HAL.out.mono ?_
                  rintro e7 w7 ⟨rfl, hm7⟩
                  have HM7 := Lib.hid hm7
                  clear hm7
                  go_wp2_with fail
                  go_meet
                  exact Lib.hid ⟨y, regs, T, Q, f, _, HM7.out.weak fun hr => hr.1, HS2.out, HQ8.out, by omega, by omega⟩
              · as_aux_lemma =>
                  obtain rfl : nn' = nn := by omega
                  obtain ⟨z, hz⟩ : ∃ z : Nat, z = 2 * a := ⟨_, rfl⟩
                  rw [ha] at hal hcya
                  rw [← hz] at hal hs
                  have hz64 : z < 18446744073709551616 := by omega
                  have HAL := Lib.hid hal
                  have HS2 := Lib.hid hs
                  have hcyy : y.cy ≤ x.cy + 2 := hcya
                  clear hal ha hs hcya ka kaf kc kcf j0 j4 hz hnn'
                  go_wp2_with fail
                  refine HAL.out.mono ?_
                  rintro e7 w7 ⟨rfl, hm7⟩
                  obtain ⟨ka, kaf⟩ := hm7.at_ ra hra
                  have HPK := Lib.hid (hm7.poke (rk_keeps _ _ _ _ _ _ _) ra z hz64)
                  clear hm7 HAL
                  go_upto_region 27 with fail
                  generalize w7.setCell ⟨rb, ra, none⟩ (.int .u64 (z : Int)) = w8 at *
                  clear ka kaf
                  obtain ⟨G8, Ak, ck, vf8, ht8, kt0, htl8⟩ := HPK.out.twin
                  obtain ⟨kv0, kv1, kf0, kf1⟩ := HPK.out.valCells HQA.out
                  have HP9 : Hid (∃ U', MidX (RK pb st T.length tb vb T (Q.set ra (.obj T.length))) w1 p g q m rb y (regs.set ra z) ((w8.setCell ⟨vb, ra * 2, none⟩ (.bool false)).setCell ⟨vb, ra * 2 + 1, none⟩ (.int .i64 (T.length : Int))) U') := Lib.hid (HPK.out.pokeV ra (.obj T.length))
                  clear ht8 HPK
                  go_upto_region 28 with fail
                  generalize (w8.setCell ⟨vb, ra * 2, none⟩ (.bool false)).setCell ⟨vb, ra * 2 + 1, none⟩ (.int .i64 (T.length : Int)) = w9 at *
                  clear kt0 htl8 kv0 kv1 kf0 kf1
                  obtain ⟨U9, hm9⟩ := HP9.out
                  obtain ⟨G9, Ak9, ck9, vf9, ht9, kt9, htl9⟩ := hm9.twin
                  have HM9 := Lib.hid hm9
                  have HT9 := Lib.hid ht9
                  have hown : Hid ((w9.alloc (.cells #[.int .i64 6] 3)).ownsRow 0 3 1 (.slice Ak9 T.length ck9) T.length (kindVals T.length)) := Lib.hid (ht9.kinds.1.alloc _)
                  have hsrc := Lib.hid (cell_one_new w9 (.int .i64 6) 3)
                  have hone : Hid (∀ u ∈ [Value.int .i64 6], u.oneCell' = true) := Lib.hid (by intro u hu; obtain rfl : u = .int .i64 6 := (by simpa using hu); rfl)
                  clear hm9 ht9 HP9
                  go_wp2_with (at_builtin; refine wpList_append_own_at _ rfl (.tmp 116) (.tmp 117) 61 rfl 0 3 i0 _ 1 8 Tryd.underlying61 hi0 hz0 hz1 hz2 rfl (by decide) _ _ _ rfl hown.out ⟨w9.heap.size, 0, none⟩ 1 1 [.int .i64 6] rfl rfl hsrc.out hone.out (by unfold maxLen; omega) (by omega) (Nat.zero_le _) ?_)
                  intro v1 w10 hown1 hgr1 hnn1 hat1
                  obtain ⟨hh10, hm11⟩ := HM9.out.pushK HT9.out hown1 hgr1 (by simpa using hat1)
                  have f3 : w10.frozen? ⟨tb, 0, none⟩ = false := Lib.frozen_of_heap hh10 0
                  have f4 : w10.cell? ⟨tb, 0, none⟩ = some (.slice Ak9 T.length ck9) := by rw [Lib.cell_of_heap hh10]; rfl
                  obtain ⟨f1, k1, rfl⟩ := row_form hown1 hnn1
                  have HM11 := Lib.hid hm11
                  clear hown1 hgr1 hnn1 hat1 hh10 hm11 hown hsrc hone kt9 HM9 HT9
                  go_upto_region 29 with fail
                  generalize w10.setCell ⟨tb, 0, none⟩ (.slice (some ⟨f1, 0, none⟩) (T.length + 1) k1) = w11 at *
                  clear f3 f4
                  obtain ⟨U11, hm11⟩ := HM11.out
                  have HM12 := Lib.hid (hm11.newR (n := nn'))
                  have hmk := make_vals nn' (by omega) w11
                  clear hm11 HM11
                  go_upto_block 5 with fail
                  clear hmk
                  generalize w11.alloc (.cells (tvsCells (halfRow nn' 0)).toArray 83) = w12 at *
                  generalize w11.heap.size = gr at *
                  have HM13 : Hid (∃ U', MidX (RR pb st (T.length + 1) tb vb T (Q.set ra (.obj T.length)) gr (halfRow nn' 0)) w1 p g q m rb y (regs.set ra z) w12 U') := HM12
                  clear HM12
                  go_wp2_with fail
                  go_loopw [125] (fun vv wr => ∃ kk : Nat, kk ≤ nn' ∧ vv = .int .i64 kk ∧ Hid (∃ U', MidX (RR pb st (T.length + 1) tb vb T (Q.set ra (.obj T.length)) gr (halfRow nn' kk)) w1 p g q m rb y (regs.set ra z) wr U')) (fun vv _ => nn' - (intOf vv).toNat)
                  case atStart => exact ⟨0, by omega, by go_num, HM13⟩
                  case round =>
                    obtain ⟨kk, hkk, rfl, HMK⟩ := hrel
                    clear HM13
                    by_cases hkn : kk < nn'
                    · have g10 : decide ((kk : Int) < (nn' : Int)) = true := decide_eq_true (by omega)
                      have g10' : decide (kk < nn') = true := decide_eq_true hkn
                      have g11 : (kk : Int) < (nn' : Int) := by omega
                      have g12 : (0 : Int) ≤ (kk : Int) := by omega
                      obtain ⟨U13, hm13⟩ := HMK.out
                      obtain ⟨kc0, kf0⟩ := hm13.halfR hkn
                      have HN := Lib.hid (hm13.markR hkn)
                      clear hm13
                      go_wp2_with fail
                      go_roundw
                      case rel => exact ⟨kk + 1, by omega, by go_num, HN⟩
                      case measure => simp [intOf]; omega
                    · have g10 : decide ((kk : Int) < (nn' : Int)) = false := decide_eq_false (by omega)
                      have g10' : decide (kk < nn') = false := decide_eq_false hkn
                      have hke : kk = nn' := by omega
                      have HMR : Hid (∃ U', MidX (RR pb st (T.length + 1) tb vb T (Q.set ra (.obj T.length)) gr (List.replicate nn' (.num 0))) w1 p g q m rb y (regs.set ra z) wr U') := Lib.hid (by
                        have := HMK.out
                        rw [hke, half_end] at this
                        exact this)
                      clear hke HMK hkn hkk
                      obtain ⟨U13, hm13⟩ := HMR.out
                      obtain ⟨G13, A13, c13, vk13, ht13, hnew, hnv, kt1, htl13⟩ := hm13.twinR
                      have HM13 := Lib.hid hm13
                      have HT13 := Lib.hid ht13
                      have HNEW := Lib.hid hnew
                      have HNV := Lib.hid hnv
                      have hown : Hid ((wr.alloc (.cells #[.slice (some ⟨gr, 0, none⟩) nn' nn'] 81)).ownsRow 0 81 1 (.slice A13 T.length c13) T.length (rowVals G13 T)) := Lib.hid (ht13.rows.1.alloc _)
                      have hsrc := Lib.hid (cell_one_new wr (.slice (some ⟨gr, 0, none⟩) nn' nn') 81)
                      have hone : Hid (∀ u ∈ [Value.slice (some ⟨gr, 0, none⟩) nn' nn'], u.oneCell' = true) := Lib.hid (by intro u hu; obtain rfl : u = .slice (some ⟨gr, 0, none⟩) nn' nn' := (by simpa using hu); rfl)
                      clear hm13 ht13 hnew hnv HMR
                      go_wp2_with (at_builtin; refine wpList_append_own_at _ rfl (.tmp 137) (.tmp 139) 78 rfl 0 81 r0 _ 1 24 Tryd.underlying78 ri0 rz0 rz1 rz2 rfl (by decide) _ _ _ rfl hown.out ⟨wr.heap.size, 0, none⟩ 1 1 [.slice (some ⟨gr, 0, none⟩) nn' nn'] rfl rfl hsrc.out hone.out (by unfold maxLen; omega) (by omega) (Nat.zero_le _) ?_)
                      intro v2 w14 hown2 hgr2 hnn2 hat2
                      obtain ⟨hh14, hm15⟩ := HM13.out.pushR HT13.out HNEW.out HNV.out (by rw [List.length_replicate]; exact hown2) hgr2 (by simpa using hat2)
                      have f3 : w14.frozen? ⟨tb, 1, none⟩ = false := Lib.frozen_of_heap hh14 1
                      have f4 : w14.cell? ⟨tb, 1, none⟩ = some (.slice A13 T.length c13) := by rw [Lib.cell_of_heap hh14]; rfl
                      obtain ⟨f2, k2, rfl⟩ := row_form hown2 hnn2
                      have HN : Hid (MidW w1 p g q m rb tb vb (i + 1) (w14.setCell ⟨tb, 1, none⟩ (.slice (some ⟨f2, 0, none⟩) (T.length + 1) k2))) := Lib.hid (by
                        obtain ⟨U15, hm15⟩ := hm15
                        refine ⟨y, regs.set ra z, T ++ [List.replicate nn' (.num 0)], Q.set ra (.obj T.length), upd f T.length a, U15, ?_, HS2.out, by rw [List.length_set]; exact HQ8.out, by simp; omega, by omega⟩
                        rw [show (T ++ [List.replicate nn' (TV.num 0)]).length = T.length + 1 by simp]
                        exact hm15)
                      clear hown2 hgr2 hnn2 hat2 hh14 hm15 hown hsrc hone kt1 HM13 HT13
                      go_wp2_with fail
                      go_meet
                      exact HN
            · have B0 : (st.k == 0) = false := by simp [hk0]
              clear hk0
              by_cases hk1 : st.k = 1
              · as_aux_lemma =>
                  have B1 : (st.k == 1) = true := by simp [hk1]
                  clear hk1
                  obtain ⟨ev, y, T2, hT2, hycy, hsm2, hse, hts⟩ := set_both (w := w1) (p := p) (g := g) (q := q) (rb := rb) (pb := pb) (tb := tb) (vb := vb) (U := U5) (st := st) HSM.out HINV.out (by omega) HQA.out HQC.out hxa hxc
                  have HSE := Lib.hid hse
                  have HTS := Lib.hid hts
                  have HS2 := Lib.hid hsm2
                  have hcyy : y.cy ≤ x.cy := Nat.le_of_eq hycy
                  have htl2 : T2.length ≤ T.length := Nat.le_of_eq hT2
                  have HT2 := Lib.hid hT2
                  have HAT := Lib.hid (fun (W : World) (z : SS) (hW : MidX (RK pb st T.length tb vb T Q) w1 p g q m rb z regs W U5) => (⟨(hW.at_ ra hra).1, hW.boxM, (hW.at_ rc hrc).1⟩ : _ ∧ _ ∧ _))
                  have HVC := Lib.hid (fun (W : World) (z : SS) (T3 : List (List TV)) (U3 : Nat → Prop) (hW : MidX (RK pb st T.length tb vb T3 Q) w1 p g q m rb z regs W U3) => (⟨(hW.valCells HQA.out).1, (hW.valCells HQA.out).2.1, (hW.valCells HQC.out).1, (hW.valCells HQC.out).2.1, hW.boxM⟩ : _ ∧ _ ∧ _ ∧ _ ∧ _))
                  clear hse hts hsm2 hycy hT2 hxa hxc kaf kcf HVR
                  generalize regs.getD ra 0 = xa at *
                  generalize regs.getD rc 0 = xc at *
                  generalize va.isNum = ab at *
                  generalize va.val = ai at *
                  generalize vc.isNum = cb at *
                  generalize vc.val = ci at *
                  go_upto_region 37 with fail
                  have E1 : IntKind.i64.wrap (ra : Int) = (ra : Int) := by rw [IntKind.wrap_i64]; omega
                  have E2 : IntKind.i64.wrap (rc : Int) = (rc : Int) := by rw [IntKind.wrap_i64]; omega
                  go_region_held3 (fun W => W.cell? ⟨rb, ra, none⟩ = some (.int .u64 (xa : Int)) ∧ W.cell? ⟨pb, 4, none⟩ = some (.int .i64 st.m) ∧ W.cell? ⟨rb, rc, none⟩ = some (.int .u64 (xc : Int))) (go_keep)
                    ((go_at_call 55; refine (HSE.out _ ?_).mono ?_; exact HM6.out.next (rk_keeps _ _ _ _ _ _ _) (Below.refl _ _).drew; rintro e7 w7 ⟨rfl, hs7⟩; have H7 := Lib.hid hs7; clear hs7; obtain ⟨i1, i2, i3⟩ := HAT.out _ _ H7.out))
                  all_goals
                    clear ka kc j4
                    obtain ⟨a0, a1, c0, c1, j4⟩ := HVC.out _ _ _ _ H7.out
                    have hvl7 := H7.out.vals.2.1
                    have hpl7 := H7.out.boxed.2.2.2.2.2
                    go_upto_region 38 with fail
                    go_region_held3 (fun W => W.cell? ⟨vb, ra * 2, none⟩ = some (.bool ab) ∧ W.cell? ⟨vb, ra * 2 + 1, none⟩ = some (.int .i64 ai) ∧ W.cell? ⟨vb, rc * 2, none⟩ = some (.bool cb) ∧ W.cell? ⟨vb, rc * 2 + 1, none⟩ = some (.int .i64 ci) ∧ W.cell? ⟨pb, 4, none⟩ = some (.int .i64 st.m)) (go_keep)
                      ((go_at_call 56; refine (HTS.out _ ?_).mono ?_; exact H7.out.next (rk_keeps _ _ _ _ _ _ _) (Below.refl _ _).drew; rintro e8 w8 ⟨rfl, U8, hs8⟩; have H8 := Lib.hid hs8; clear hs8; obtain ⟨l0, l1, l2, l3, l4⟩ := HVC.out _ _ _ _ H8.out))
                    all_goals
                      go_wp2_with fail
                      go_meet
                      exact Lib.hid ⟨y, regs, T2, Q, f, _, (by rw [HT2.out]; exact H8.out.weak fun hr => hr.1), HS2.out, HQ8.out, by omega, by omega⟩
              · have B1 : (st.k == 1) = false := by simp [hk1]
                clear hk1
                by_cases hk2 : st.k = 2
                · as_aux_lemma =>
                    have B2 : (st.k == 2) = true := by simp [hk2]
                    clear hk2
                    have hgsm : ∀ i, (hGet x.s.L (addrW (regs.getD rc 0) : Nat) i).1 < 18446744073709551616 := fun i => by
                      obtain ⟨S, hh⟩ := HM6.out.store.1.heap
                      exact hGet_small hh _ i
                    obtain ⟨ev, wv, ok, gb, gv, hge, htg, hres⟩ := get_both (w := w1) (p := p) (g := g) (q := q) (rb := rb) (pb := pb) (tb := tb) (vb := vb) (U := U5) (st := st) HSM.out HINV.out (by omega) HQC.out hxc hgsm ra
                    have HGE := Lib.hid hge
                    have HTG := Lib.hid htg
                    have HRES := Lib.hid hres
                    have HAT := Lib.hid (fun (W : World) (hW : MidX (RK pb st T.length tb vb T Q) w1 p g q m rb x regs W U5) => (⟨hW.boxM, (hW.at_ rc hrc).1⟩ : _ ∧ _))
                    have HVC := Lib.hid (fun (W : World) (hW : MidX (RK pb st T.length tb vb T Q) w1 p g q m rb x regs W U5) => (⟨(hW.valCells HQC.out).1, (hW.valCells HQC.out).2.1, hW.boxM⟩ : _ ∧ _ ∧ _))
                    clear hge htg hres hgsm hxa hxc HVR ka kaf kcf
                    generalize regs.getD rc 0 = xc at *
                    generalize vc.isNum = cb at *
                    generalize vc.val = ci at *
                    go_upto_region 41 with fail
                    have E2 : IntKind.i64.wrap (rc : Int) = (rc : Int) := by rw [IntKind.wrap_i64]; omega
                    go_region_held3 (fun W => W.cell? ⟨pb, 4, none⟩ = some (.int .i64 st.m) ∧ W.cell? ⟨rb, rc, none⟩ = some (.int .u64 (xc : Int))) (go_keep)
                      ((go_at_call 57; refine (HGE.out _ ?_).mono ?_; exact HM6.out.next (rk_keeps _ _ _ _ _ _ _) (Below.refl _ _).drew; rintro e7 w7 ⟨rfl, hs7, _⟩; have H7 := Lib.hid hs7; clear hs7; obtain ⟨i1, i2⟩ := HAT.out _ H7.out))
                    all_goals
                      clear kc j4
                      obtain ⟨c0, c1, j4⟩ := HVC.out _ H7.out
                      have hvl7 := H7.out.vals.2.1
                      have hpl7 := H7.out.boxed.2.2.2.2.2
                      go_upto_region 42 with fail
                      have m0 := World.new_ne w7 ⟨vb, rc * 2, none⟩ c0
                      have m1 := World.new_ne w7 ⟨vb, rc * 2 + 1, none⟩ c1
                      have m2 := World.new_ne w7 ⟨pb, 4, none⟩ j4
                      have m3 : ¬ vb = w7.heap.size := by omega
                      have m4 : ¬ w7.heap.size = vb := by omega
                      have m5 : ¬ pb = w7.heap.size := by omega
                      have m6 : ¬ w7.heap.size = pb := by omega
                      go_region_held3 (fun W => W.cell? ⟨vb, rc * 2, none⟩ = some (.bool cb) ∧ W.cell? ⟨vb, rc * 2 + 1, none⟩ = some (.int .i64 ci) ∧ W.cell? ⟨pb, 4, none⟩ = some (.int .i64 st.m)) (go_keep)
                        ((go_at_call 58; refine (HTG.out _ ?_).mono ?_; (first | exact H7.out.next (rk_keeps pb st T.length tb vb T Q) (Below.refl w7.heap.size w7).drew | exact H7.out.next (rk_keeps pb st T.length tb vb T Q) (below_one (w := w7) (.cells #[.bool false, .int .i64 0] 83)).drew); rintro e8 w8 ⟨rfl, hb8⟩; have HB8 := Lib.hid hb8; clear hb8; first | (have l0 := (HB8.out.cell (p := ⟨vb, rc * 2, none⟩) hvl7).trans c0; have l1 := (HB8.out.cell (p := ⟨vb, rc * 2 + 1, none⟩) hvl7).trans c1; have l4 := (HB8.out.cell (p := ⟨pb, 4, none⟩) hpl7).trans j4) | (obtain ⟨l0, l1, l4, z0, z1, y0, y1, hzl⟩ := held_after HB8.out hvl7 hpl7 c0 c1 j4)))
                      all_goals
                        clear m0 m1 m2 m3 m4 m5 m6 l0 l1 l4 c0 c1 j4
                        try clear z0 z1 y0 y1 hzl
                        have hrl7 := H7.out.rbl
                        first
                          | (have hfr : Fresh w7 (w8.alloc (.cells #[.bool gb, .int .i64 gv] 83)) w8.heap.size gb gv := fresh_a gb gv HB8.out; clear HB8; generalize w8.alloc (.cells #[.bool gb, .int .i64 gv] 83) = w9 at *; generalize w8.heap.size = pv at *)
                          | (have hfr := fresh_b gb gv HB8.out; clear HB8; generalize (w8.setCell ⟨w7.heap.size, 0, none⟩ (.bool gb)).setCell ⟨w7.heap.size, 1, none⟩ (.int .i64 gv) = w9 at *; obtain ⟨pv, hpv⟩ : ∃ pv, pv = w7.heap.size := ⟨_, rfl⟩; rw [← hpv] at hfr ⊢; clear hpv)
                        have HM9 := Lib.hid (H7.out.next (rk_keeps pb st T.length tb vb T Q) hfr.1)
                        have p0 : w9.cell? ⟨pv, 0, none⟩ = some (.bool gb) := by rw [Lib.cell_of_heap hfr.2.1]; rfl
                        have p1 : w9.cell? ⟨pv, 1, none⟩ = some (.int .i64 gv) := by rw [Lib.cell_of_heap hfr.2.1]; rfl
                        have hpr : ¬ pv = rb := by have := hfr.2.2; omega
                        have hpr2 : ¬ rb = pv := by have := hfr.2.2; omega
                        have hpl := lt_of_heap hfr.2.1
                        clear hfr H7 hvl7 hpl7 hrl7
                        rcases HRES.out with ⟨hok, hev⟩ | ⟨hok, hev, u, hgb, hgv, hwv, hsm2⟩
                        · subst hok
                          have B7 : (ev == 0) = false := by rw [beq_eq_false_iff_ne]; exact hev
                          clear hev HRES HGE HTG
                          go_wp2_with fail
                          go_meet
                          exact Lib.hid ⟨x, regs, T, Q, f, _, HM9.out.weak fun hr => hr.1, HSM.out, HQ8.out, by omega, by omega⟩
                        · subst hok
                          subst hev
                          have HS2 := Lib.hid hsm2
                          obtain ⟨ka, kaf⟩ := HM9.out.at_ ra hra
                          have HPK := Lib.hid (HM9.out.poke (rk_keeps pb st T.length tb vb T Q) ra wv hwv)
                          clear HRES HGE HTG hsm2
                          go_upto_region 47 with fail
                          have p0 : (w9.setCell ⟨rb, ra, none⟩ (.int .u64 (wv : Int))).cell? ⟨pv, 0, none⟩ = some (.bool gb) := by rw [World.cell?_setCell_other _ _ _ _ (fun he => hpr2 (congrArg Addr.block he))]; exact p0
                          have p1 : (w9.setCell ⟨rb, ra, none⟩ (.int .u64 (wv : Int))).cell? ⟨pv, 1, none⟩ = some (.int .i64 gv) := by rw [World.cell?_setCell_other _ _ _ _ (fun he => hpr2 (congrArg Addr.block he))]; exact p1
                          clear ka kaf
                          generalize w9.setCell ⟨rb, ra, none⟩ (.int .u64 (wv : Int)) = w10 at *
                          obtain ⟨kv0, kv1, kf0, kf1⟩ := HPK.out.valCells HQA.out
                          have HP9 : Hid (∃ U', MidX (RK pb st T.length tb vb T (Q.set ra u)) w1 p g q m rb x (regs.set ra wv) ((w10.setCell ⟨vb, ra * 2, none⟩ (.bool gb)).setCell ⟨vb, ra * 2 + 1, none⟩ (.int .i64 gv)) U') := Lib.hid (by rw [hgb, hgv]; exact HPK.out.pokeV ra u)
                          have hvl9 := HPK.out.vals.2.1
                          clear hgb hgv
                          go_wp2_with fail
                          go_meet
                          obtain ⟨U9, hm9⟩ := HP9.out
                          exact Lib.hid ⟨x, _, T, _, f, _, hm9.weak fun hr => hr.1, HS2.out, by rw [List.length_set]; exact HQ8.out, by omega, by omega⟩
                · have B2 : (st.k == 2) = false := by simp [hk2]
                  clear hk2
                  by_cases hk3 : st.k = 3
                  · as_aux_lemma =>
                      have B3 : (st.k == 3) = true := by simp [hk3]
                      have hpk := sx_Pick (rk_keeps _ _ _ _ _ _ _) HT1.out HM6.out (by have := HCY.out; omega)
                      have hcyp := pick_cy x regs
                      have HS2 := Lib.hid (HSM.out.pick HINV.out)
                      have HPI := Lib.hid hpk
                      clear hk3 hpk ka kaf kc kcf j4
                      generalize x.pick regs = y at *
                      go_wp2_with fail
                      refine HPI.out.mono ?_
                      rintro e7 w7 ⟨rfl, hm7⟩
                      have HM7 := Lib.hid hm7
                      clear hm7
                      go_wp2_with fail
                      go_meet
                      exact Lib.hid ⟨y, regs, T, Q, f, _, HM7.out.weak fun hr => hr.1, HS2.out, HQ8.out, by omega, by omega⟩
                  · have B3 : (st.k == 3) = false := by simp [hk3]
                    clear hk3
                    by_cases hk6 : st.k = 6
                    · as_aux_lemma =>
                        have B6 : (st.k == 6) = true := by simp [hk6]
                        clear hk6 j4
                        have HPK := Lib.hid (HM6.out.poke (rk_keeps _ _ _ _ _ _ _) ra (regs.getD rc 0) hxc)
                        have HS2 := Lib.hid (HSM.out.copy ra HQC.out)
                        clear hxa hxc HVR
                        generalize hxx : regs.getD rc 0 = xc at *
                        clear hxx
                        go_upto_region 52 with fail
                        generalize w6.setCell ⟨rb, ra, none⟩ (.int .u64 (xc : Int)) = w7 at *
                        clear ka kaf kc kcf
                        obtain ⟨kv0, kv1, kf0, kf1⟩ := HPK.out.valCells HQA.out
                        obtain ⟨ku0, ku1, q1, q2⟩ := HPK.out.valCells HQC.out
                        clear q1 q2
                        have HP9 : Hid (∃ U', MidX (RK pb st T.length tb vb T (Q.set ra vc)) w1 p g q m rb x (regs.set ra xc) ((w7.setCell ⟨vb, ra * 2, none⟩ (.bool vc.isNum)).setCell ⟨vb, ra * 2 + 1, none⟩ (.int .i64 vc.val)) U') := Lib.hid (HPK.out.pokeV ra vc)
                        have hvl7 := HPK.out.vals.2.1
                        generalize vc.isNum = un at *
                        generalize vc.val = uv at *
                        go_wp2_with fail
                        go_meet
                        obtain ⟨U9, hm9⟩ := HP9.out
                        exact Lib.hid ⟨x, _, T, _, f, _, hm9.weak fun hr => hr.1, HS2.out, by rw [List.length_set]; exact HQ8.out, by omega, by omega⟩
                    · as_aux_lemma =>
                        have B6 : (st.k == 6) = false := by simp [hk6]
                        clear hk6 j4 kc kcf
                        obtain ⟨y, hy64, hyo, hyodd, hyn⟩ := odd_of st.n
                        have j3 := HM6.out.boxed.2.2.2.1
                        have HOF := Lib.hid (fun W => word_Of st.n W)
                        rw [hyo] at HOF
                        have HWR := Lib.hid (fun W => wordWrap_any st.n W)
                        have HPK := Lib.hid (HM6.out.poke (rk_keeps _ _ _ _ _ _ _) ra y hy64)
                        have hs2 := HSM.out.number ra y hyodd
                        rw [hyn] at hs2
                        have HS2 := Lib.hid hs2
                        clear hs2 hyo hyn hyodd hxa hxc HVR
                        generalize W63 st.n = nw at *
                        go_wp2_with fail
                        refine (HOF.out _).mono ?_
                        rintro e7 w' ⟨rfl, rfl⟩
                        go_upto_region 22 with fail
                        generalize w6.setCell ⟨rb, ra, none⟩ (.int .u64 (y : Int)) = w7 at *
                        clear ka kaf j3
                        have j3 := HPK.out.boxed.2.2.2.1
                        obtain ⟨kv0, kv1, kf0, kf1⟩ := HPK.out.valCells HQA.out
                        have HP9 : Hid (∃ U', MidX (RK pb st T.length tb vb T (Q.set ra (.num nw))) w1 p g q m rb x (regs.set ra y) ((w7.setCell ⟨vb, ra * 2, none⟩ (.bool true)).setCell ⟨vb, ra * 2 + 1, none⟩ (.int .i64 nw)) U') := Lib.hid (HPK.out.pokeV ra (.num nw))
                        have hvl7 := HPK.out.vals.2.1
                        go_wp2_with fail
                        refine (HWR.out _).mono ?_
                        rintro e7 w' ⟨rfl, rfl⟩
                        go_wp2_with fail
                        go_meet
                        obtain ⟨U9, hm9⟩ := HP9.out
                        exact Lib.hid ⟨x, _, T, _, f, _, hm9.weak fun hr => hr.1, HS2.out, by rw [List.length_set]; exact HQ8.out, by omega, by omega⟩
          case rest =>
            as_aux_lemma =>
              have HR := hcut
              clear hcut HM6 HSM j0 j4 hpb
              obtain ⟨x2, regs2, T2, Q2, f2, U2, hm, hs, hq, hl2, hcy2⟩ := HR.out
              have hal := alike_any rb vb regs2 Q2 wc (fun i hi => (hm.at_ i hi).1) hm.rbl (fun i hi => hm.mem i hi) (by obtain ⟨G, vk, vf, ht⟩ := hm.side; exact ht.vals) hq hs.alike
              have HAK := Lib.hid hal
              have HNX : Hid (∀ w', Below wc.heap.size wc w' → MidW w1 p g q m rb tb vb (i + 1) w') := Lib.hid (fun w' hb => ⟨x2, regs2, T2, Q2, f2, U2, hm.next (k_keeps _ _ _ _ _) hb, hs, hq, hl2, hcy2⟩)
              clear hal hm hs hq hl2 hcy2 HR
              go_wp2_with fail
              refine HAK.out.mono ?_
              rintro e w7 ⟨rfl, hb7⟩
              have HN7 := Lib.hid (HNX.out _ hb7)
              clear hb7
              go_wp2_with fail
              go_roundw
              case rel => exact ⟨i + 1, by omega, by omega, by go_num, HN7⟩
              case measure => simp [intOf]; omega
        · have g4 : decide ((i : Int) < (n : Int)) = false := decide_eq_false (by omega)
          have HEB : Hid (Below w.heap.size w wr) := Lib.hid (by obtain ⟨_, _, _, _, _, _, hm, _⟩ := HMI.out; exact HBB.out _ hm.below)
          go_wp2_with fail
          go_ret
          exact ⟨rfl, HEB.out⟩
        · have g4 : decide ((i : Int) < (n : Int)) = true := decide_eq_true (by omega)
          have g5 : decide ((i : Int) < 200) = false := decide_eq_false (by omega)
          have HEB : Hid (Below w.heap.size w wr) := Lib.hid (by obtain ⟨_, _, _, _, _, _, hm, _⟩ := HMI.out; exact HBB.out _ hm.below)
          go_wp2_with fail
          go_ret
          exact ⟨rfl, HEB.out⟩
end Go.Proofs.YtbmkjlpjgkfjcaaDoor
