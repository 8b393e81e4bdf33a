/-
  The walk of the law StoreDoes: whatever the input, it returns true and leaves what was there as it was. Condition: the table of math/bits holds what its initialiser lays.
-/
import Derived.Test.YtdkbgdjkdalalaaGreatDoorZDAll
import Derived.Deep.CutBlock
import Derived.Deep.RegionHeld3
import Derived.BigQuiet
namespace Go.Proofs.YtdkbgdjkdalalaaGreatDoor
open Go.RowKit
theorem infoWord : (Tryz.prog.info? 33).map (fun i => (i.zero, i.size, i.bytes)) = some (some (.int .u64 0), 1, 8) := by kernel_rfl
theorem make_words (W : World) : (Instr.makeSlice 28 (.int .i64 8) (.int .i64 8)).run Tryz.prog W = .ok (.slice (some ⟨W.heap.size, 0, none⟩) 8 8) (W.alloc (.cells #[.int .u64 0, .int .u64 0, .int .u64 0, .int .u64 0, .int .u64 0, .int .u64 0, .int .u64 0, .int .u64 0] 33)) := by
  obtain ⟨i0, hi0, hz0, hz1, hz2⟩ := info_parts infoWord
  have h := run_make_rowN (P := Tryz.prog) 28 33 i0 _ Tryz.underlying28 hi0 hz0 .i64 .i64 8 8 (Nat.le_refl _) (by rw [hz2]; omega) (by omega) W
  have hc : madeCells (Value.int IntKind.u64 0).cells (8 * 1) = #[.int .u64 0, .int .u64 0, .int .u64 0, .int .u64 0, .int .u64 0, .int .u64 0, .int .u64 0, .int .u64 0] := by
    unfold madeCells
    rw [show Array.range (8 * 1) = #[0, 1, 2, 3, 4, 5, 6, 7] by decide]
    show Array.map (fun x => #[Value.int IntKind.u64 0][x % 1]!) #[0, 1, 2, 3, 4, 5, 6, 7] = _
    simp [Nat.mod_one]
  rw [hz1, hc] at h
  exact h
theorem dmid_start {w w2 w3 : World} {p g q m pr k r : Nat} (h : MidSt w p g q m ⟨⟨[], 0, [], [], 0⟩, 0⟩ w2) (h3 : RSt pr k r m ⟨⟨[], 0, [], [], 0⟩, 0⟩ w3 (fun b => w2.heap.size ≤ b ∧ b < w3.heap.size)) (hb3 : Below w2.heap.size w2 w3) :
    MidX (RSt pr k r m ⟨⟨[], 0, [], [], 0⟩, 0⟩) w p g q m w3.heap.size ⟨⟨[], 0, [], [], 0⟩, 0⟩ (List.replicate 8 0) (w3.alloc (.cells #[.int .u64 0, .int .u64 0, .int .u64 0, .int .u64 0, .int .u64 0, .int .u64 0, .int .u64 0, .int .u64 0] 33)) (fun b => w2.heap.size ≤ b ∧ b < w3.heap.size) := by
  have z2 := h.2.size
  have z3 := hb3.size
  have hb4 : Below w3.heap.size w3 (w3.alloc (.cells #[.int .u64 0, .int .u64 0, .int .u64 0, .int .u64 0, .int .u64 0, .int .u64 0, .int .u64 0, .int .u64 0] 33)) := below_one _
  have hb24 := hb3.trans (hb4.mono z3)
  refine ⟨h.1.more hb24 (fun b hb => ?_), rst_keeps pr k r m _ _ _ _ h3 hb4.size fun b hl _ => hb4.block b hl, ⟨rfl, .inr ⟨w3.heap.size, 8, _, rfl, Nat.zero_le _, heap_alloc_new w3 _, Nat.le_refl _, by unfold maxLen; decide, rfl, rfl⟩⟩, by simp, fun y hy => ?_, h.2.trans (hb24.mono z2), by omega, by simp, fun b hT => ⟨by omega, by omega, by simp; omega⟩⟩
  · rcases hb with (hb | rfl) | ⟨hb1, hb2⟩
    · exact .inl hb
    · exact .inr ⟨z3, by simp⟩
    · exact .inr ⟨hb1, by simp; omega⟩
  · rw [List.eq_of_mem_replicate hy]; decide
/-- In the midst of the law StoreDoes: both stores hold alike. -/
def MidD (w1 : World) (p g q m rb pr k r i : Nat) (wr : World) : Prop := ∃ (x : SS) (regs : List Nat) (T : Nat → Prop), MidX (RSt pr k r m x) w1 p g q m rb x regs wr T ∧ KindsOk x.s.L ∧ x.cy ≤ 2 * i
section
variable {w wr : World} {p g q m rb pb pr k r : Nat} {st : Stp4} {x y : SS} {regs : List Nat} {T : Nat → Prop} {R : World → (Nat → Prop) → Prop}
theorem MidX.stepAll (h : MidX (RF pb st pr k r m y) w p g q m rb x regs wr T) : (wr.cell? ⟨pb, 0, none⟩ = some (.int .i64 st.k) ∧ wr.cell? ⟨pb, 1, none⟩ = some (.int .i64 st.a) ∧ wr.cell? ⟨pb, 2, none⟩ = some (.int .i64 st.b)) ∧ wr.cell? ⟨pb, 3, none⟩ = some (.int .i64 st.n) ∧ wr.cell? ⟨pb, 4, none⟩ = some (.int .i64 st.m) ∧ wr.cell? ⟨pb, 5, none⟩ = some (.string st.t) ∧ pb < wr.heap.size := by
  have hb := h.side.2.1
  refine ⟨⟨?_, ?_, ?_⟩, ?_, ?_, ?_, lt_of_heap hb⟩ <;> (rw [Lib.cell_of_heap hb]; rfl)
theorem sx_Text (hk : Keeps R) (hT : Tab w) (h : MidX R w p g q m rb x regs wr T) (hc : x.cy ≤ 100000000) (t : ByteArray) (ht : t.size ≤ 9223372036854775807) :
    Calls Tryz.prog 17 #[.pointer (some ⟨p, 0, none⟩), .string t, .slice (some ⟨rb, 0, none⟩) 8 8] wr (fun e w' => ∃ r, textV m x t.data.toList regs r ∧ e = .returned (.tuple #[.int .u64 (r.1 : Nat), .int .i64 r.2.1]) ∧ MidX R w p g q m rb r.2.2 regs w' T) := by
  refine (st_Text (Beside w rb T) p g q m _ wr h.store (h.tab hT) (.inl (.inl hT.lt)) hc t ht (some ⟨rb, 0, none⟩) 8 8 regs h.roots (by omega)).mono ?_
  rintro e w' ⟨r, hr, he, hs⟩
  exact ⟨r, hr, he, h.goS hk hs⟩
theorem f_Text (h : MidX (RF pb st pr k r m y) w p g q m rb x regs wr T) (hv : Vals y.s.L) (hc : y.cy ≤ 100000000) (t : ByteArray) :
    Calls Tryz.prog 18 #[.pointer (some ⟨pr, 0, none⟩), .string t, .slice (some ⟨rb, 0, none⟩) 8 8] wr (fun e w' => ∃ z, textV m y t.data.toList regs z ∧ e = .returned (.tuple #[.int .u64 (z.1 : Nat), .int .i64 z.2.1]) ∧ ∃ T', MidX (RF pb st pr k r m z.2.2) w p g q m rb x regs w' T') := by
  obtain ⟨_, _, U0, h3, h4⟩ := h.side
  refine (zs_Text pr k r m y U0 (· = rb) wr h3 hv hc t (some ⟨rb, 0, none⟩) 8 8 regs h.rootsOnly (fun b hb => ⟨fun hu => (h.apart b (h4 b hu).1).2.1 hb, by rw [hb]; exact h.rbl⟩) (by decide)).mono ?_
  rintro e w' ⟨z, hz, he, hs⟩
  exact ⟨z, hz, he, h.goF h4 hs⟩
theorem f_Get (h : MidX (RF pb st pr k r m y) w p g q m rb x regs wr T) (v : Nat) (hv : v < 18446744073709551616) (i : Int) :
    Calls Tryz.prog 14 #[.pointer (some ⟨pr, 0, none⟩), .int .u64 (v : Int), .int .i64 i] wr (fun e w' => e = .returned (.tuple #[.int .u64 ((hGet y.s.L (addrW v : Nat) i).1 : Nat), .int .i64 (hGet y.s.L (addrW v : Nat) i).2]) ∧ MidX (RF pb st pr k r m y) w p g q m rb x regs w' T) := by
  obtain ⟨_, _, U0, h3, h4⟩ := h.side
  refine (zs_Get pr k r m y U0 wr h3 v hv i).mono ?_
  rintro e w' ⟨he, hb⟩
  exact ⟨he, h.next (rf_keeps _ _ _ _ _ _ _) hb⟩
theorem MidX.getSmall (h : MidX R w p g q m rb x regs wr T) (a i : Int) : (hGet x.s.L a i).1 < 18446744073709551616 := by
  obtain ⟨S, hh⟩ := h.store.1.heap
  exact hGet_small hh a i
end
theorem word_of_int (n : Int) : ∃ y : Nat, IntKind.u64.wrap n = (y : Int) ∧ y < 18446744073709551616 := by
  refine ⟨(n % 18446744073709551616).toNat, ?_, by omega⟩
  rw [IntKind.wrap_u64]
  omega
set_option maxHeartbeats 8000000 in
set_option maxRecDepth 100000 in
theorem does_walk (m : Nat) (A : Option Addr) (n c : Nat) (w : World) (hT : Tab w) (h : 2 ≤ m ∧ m ≤ 2048) (hS : Script4 w (fun b => b < w.heap.size) A n) (hn : n ≤ 9223372036854775807) :
    Calls Tryz.prog 3 #[.int .i64 (m : Int), .slice A n c] w (YesMade true w) := by
  have HT := Lib.hid hT
  have HS := Lib.hid hS
  have g1 : decide (2048 < (m : Int)) = false := decide_eq_false (by omega)
  clear hT hS
  go_enter Tryz.func3, Tryz.ntmps3
  go_wp2_with fail
  refine (awake4_any _ HT.out).mono ?_
  rintro e w1 ⟨rfl, hb⟩
  have HB := Lib.hid hb
  have HT1 := Lib.hid (HT.out.below hb HT.out.lt)
  clear hb
  have hnew : Calls Tryz.prog 6 #[.int .i64 (m : Int)] w1 (SNew m w1) := st_New m (by omega) (by omega) w1
  have HNW := Lib.hid hnew
  clear hnew
  go_wp2_with fail
  refine HNW.out.mono ?_
  rintro e w2 ⟨p, g, q, rfl, h2, hb2, hx⟩
  have H2 : Hid (MidSt w1 p g q m ⟨⟨[], 0, [], [], 0⟩, 0⟩ w2) := Lib.hid ⟨h2, hb2⟩
  clear h2 hb2 HNW hx
  go_wp2_with fail
  refine (zs_New m (by omega) w2).mono ?_
  rintro e w3 ⟨pr, k, r, rfl, h3, hb3⟩
  have HM : Hid (MidD w1 p g q m w3.heap.size pr k r 0 (w3.alloc (.cells #[.int .u64 0, .int .u64 0, .int .u64 0, .int .u64 0, .int .u64 0, .int .u64 0, .int .u64 0, .int .u64 0] 33))) := Lib.hid ⟨_, _, _, dmid_start H2.out h3 hb3, (fun o ho => by cases ho), Nat.le_refl _⟩
  have hmk := make_words w3
  clear h3 hb3 H2
  go_upto_block 0 with fail
  clear hmk
  generalize w3.alloc (.cells #[.int .u64 0, .int .u64 0, .int .u64 0, .int .u64 0, .int .u64 0, .int .u64 0, .int .u64 0, .int .u64 0] 33) = w4 at *
  generalize w3.heap.size = rb at *
  have HBB := Lib.hid (fun (wr : World) (hb : Below w1.heap.size w1 wr) => HB.out.trans (hb.mono HB.out.size))
  clear HB
  go_wp2_with fail
  go_loopw [8] (fun vi wr => ∃ i : Nat, i ≤ n ∧ i ≤ 200 ∧ vi = .int .i64 i ∧ Hid (MidD w1 p g q m rb pr k r i wr)) (fun vi _ => n - (intOf vi).toNat)
  case atStart => exact ⟨0, by omega, by omega, by go_num, HM⟩
  case round =>
    obtain ⟨i, hin, hi4, rfl, HMI⟩ := hrel
    clear HM
    have hcase : (i < n ∧ i < 200) ∨ n ≤ i ∨ (i < n ∧ 200 ≤ i) := by omega
    have HEND : Hid (Below w.heap.size w wr) := Lib.hid (by obtain ⟨x, regs, T, h1, _⟩ := HMI.out; exact HBB.out _ h1.below)
    rcases hcase with ⟨hi1, hi2⟩ | hc | ⟨hc, hc4⟩
    · clear HEND
      have g4 : decide ((i : Int) < (n : Int)) = true := decide_eq_true (by omega)
      have g5 : decide ((i : Int) < 200) = true := decide_eq_true (by omega)
      obtain ⟨st, b, off, rfl, hbl, hxx, e0, e1, e2, e3, e4, e5, htz⟩ := HS.out i hi1
      obtain ⟨x, regs, T, hmp, hko, hcy⟩ := HMI.out
      have hbw := HBB.out _ hmp.below
      have k0 := (hbw.cell (p := ⟨b, off + i * 6, none⟩) hbl).trans e0
      have k1 := (hbw.cell (p := ⟨b, off + i * 6 + 1, none⟩) hbl).trans e1
      have k2 := (hbw.cell (p := ⟨b, off + i * 6 + 2, none⟩) hbl).trans e2
      have k3 := (hbw.cell (p := ⟨b, off + i * 6 + 3, none⟩) hbl).trans e3
      have k4 := (hbw.cell (p := ⟨b, off + i * 6 + 4, none⟩) hbl).trans e4
      have k5 := (hbw.cell (p := ⟨b, off + i * 6 + 5, none⟩) hbl).trans e5
      have hbr : b < wr.heap.size := Nat.lt_of_lt_of_le hbl hbw.size
      clear hbw e0 e1 e2 e3 e4 e5 hxx
      have HRA := Lib.hid (fun W => reg_any st.a W)
      have HRC := Lib.hid (fun W => reg_any st.b W)
      have hra := regOf_lt st.a
      have hrc := regOf_lt st.b
      have HKO := Lib.hid hko
      have HBX := Lib.hid (hmp.boxF st)
      clear hmp hko HMI
      go_upto_region 14 with fail
      obtain ⟨U5, hm5⟩ := HBX.out
      clear HBX k0 k1 k2 k3 k4 k5
      generalize wr.alloc (.cells #[.int .i64 st.k, .int .i64 st.a, .int .i64 st.b, .int .i64 st.n, .int .i64 st.m, .string st.t] 30) = w5 at *
      generalize wr.heap.size = pb at *
      obtain ⟨⟨q0, j1, j2⟩, q3, q4, q5, hpb⟩ := hm5.stepAll
      have HM5 := Lib.hid hm5
      clear hm5 q0 q3 q4 q5
      go_quiet (first | (go_at_call 8; exact Calls.quiet_of_same ((HRA.out _).mono fun e w' hh => ⟨hh.1, hh.2.symm⟩)) | (go_at_call 8; exact Calls.quiet_of_same ((HRC.out _).mono fun e w' hh => ⟨hh.1, hh.2.symm⟩)))
      have HM6 := Lib.hid (HM5.out.next (rf_keeps _ _ _ _ _ _ _) (below_drewN (Below.refl _ w5) nq))
      clear HM5 j1 j2 hpb HRA HRC
      generalize w5.drewN nq = w6 at *
      generalize regOf st.a = ra at *
      generalize regOf st.b = rc at *
      have g6 : (ra : Int) < 8 := by omega
      have g7 : (0 : Int) ≤ (ra : Int) := by omega
      have g8 : (rc : Int) < 8 := by omega
      have g9 : (0 : Int) ≤ (rc : Int) := by omega
      obtain ⟨⟨j0, _, _⟩, j3, j4, j5, hpb⟩ := HM6.out.stepAll
      by_cases htl : 65536 < st.t.size
      · have gt : decide (65536 < (st.t.size : Int)) = true := decide_eq_true (by omega)
        have gt2 : decide (65536 < st.t.size) = true := decide_eq_true htl
        have HEB := Lib.hid (HBB.out _ HM6.out.below)
        clear htl j3 j4
        go_wp2_with fail
        go_ret
        exact ⟨rfl, HEB.out⟩
      · have gt : decide (65536 < (st.t.size : Int)) = false := decide_eq_false (by omega)
        have gt2 : decide (65536 < st.t.size) = false := decide_eq_false htl
        have htz2 : st.t.size ≤ 65536 := by omega
        clear htl
        go_upto_block 2 with fail
        go_cut [12, 13, 14, 15] from 61 to 217 (fun v12 v13 v14 v15 wx => ∃ (a : Nat) (er : Int), v12 = .int .u64 (a : Int) ∧ v13 = .int .u64 (a : Int) ∧ v14 = .int .i64 er ∧ v15 = .int .i64 er ∧ Hid (MidD w1 p g q m rb pr k r (i + 1) wx))
        case first =>
          have HINV := Lib.hid (show GInv m x.s from HM6.out.store.inv)
          have HVX := Lib.hid HM6.out.valsOf
          have HCY := Lib.hid (show x.cy ≤ 100000000 by omega)
          obtain ⟨ka, kaf⟩ := HM6.out.at_ ra hra
          obtain ⟨kc, kcf⟩ := HM6.out.at_ rc hrc
          have hxa := HM6.out.mem ra hra
          have hxc := HM6.out.mem rc hrc
          by_cases hk0 : st.k = 0
          · as_aux_lemma =>
              have B0 : (st.k == 0) = true := by simp [hk0]
              have hal := sx_Alloc (rf_keeps pb st pr k r m x) HT1.out HM6.out HCY.out st.n st.m
              have hrl := fun (W : World) (z : SS) (U : Nat → Prop) (hW : MidX (RF pb st pr k r m x) w1 p g q m rb z regs W U) => f_Alloc hW HVX.out HCY.out st.n st.m
              have hcya := alloc_cy m x st.n st.m regs
              have hko := kinds_alloc HINV.out (by omega) HKO.out st.n st.m regs
              have hsm : (x.alloc m st.n st.m regs).1 < 18446744073709551616 := by
                rcases salloc_cases HINV.out st.n st.m regs with ⟨e, y, _, _, ha⟩ | ⟨a, kk, n2, y, _, _, hlt, _, _, ha⟩
                · rw [ha]; show (0 : Nat) < 18446744073709551616; omega
                · rw [ha]; show 2 * a < _; omega
              generalize hz : x.alloc m st.n st.m regs = z at *
              clear hz
              obtain ⟨z1, z2, z3⟩ := z
              simp only at hcya hsm hal hrl hko
              have HAL := Lib.hid hal
              have HRL := Lib.hid hrl
              have HK2 := Lib.hid hko
              clear hal hrl hko hk0 ka kaf kc kcf hxa hxc
              go_wp2_with fail
              refine HAL.out.mono ?_
              rintro e7 w7 ⟨rfl, hm7⟩
              have HM7 := Lib.hid hm7
              obtain ⟨_, j3, j4, _, _⟩ := hm7.stepAll
              clear hm7
              go_wp2_with fail
              refine (HRL.out _ _ _ HM7.out).mono ?_
              rintro e8 w8 ⟨rfl, U8, hm8⟩
              have HM8 := Lib.hid hm8
              obtain ⟨ka, kaf⟩ := hm8.at_ ra hra
              clear hm8 j3 j4
              by_cases hz2 : z2 = 0
              · subst hz2
                have HPK := Lib.hid (HM8.out.poke (rf_keeps pb st pr k r m z3) ra z1 hsm)
                go_wp2_with fail
                go_meet
                exact ⟨z1, 0, rfl, rfl, rfl, rfl, Lib.hid ⟨z3, _, _, HPK.out.unbox, HK2.out, by omega⟩⟩
              · have B1 : (z2 == 0) = false := by rw [beq_eq_false_iff_ne]; exact hz2
                clear hz2
                go_wp2_with fail
                go_meet
                exact ⟨z1, z2, rfl, rfl, rfl, rfl, Lib.hid ⟨z3, _, _, HM8.out.unbox, HK2.out, by omega⟩⟩
          · have B0 : (st.k == 0) = false := by simp [hk0]
            clear hk0
            by_cases hk1 : st.k = 1
            · as_aux_lemma =>
                have B1 : (st.k == 1) = true := by simp [hk1]
                clear hk1
                have HK2 := Lib.hid (kinds_write HKO.out (addrW (regs.getD ra 0) : Nat) st.m (regs.getD rc 0))
                have HSE := Lib.hid (fun (W : World) (hW : MidX (RF pb st pr k r m x) w1 p g q m rb x regs W U5) => sx_Set (rf_keeps pb st pr k r m x) hW (regs.getD ra 0) hxa st.m (regs.getD rc 0) hxc)
                have HRS := Lib.hid (fun (W : World) (z : SS) (U : Nat → Prop) (hW : MidX (RF pb st pr k r m x) w1 p g q m rb z regs W U) => f_Set hW HVX.out (regs.getD ra 0) hxa st.m (regs.getD rc 0))
                have HAT := Lib.hid (fun (W : World) (z z' : SS) (U : Nat → Prop) (hW : MidX (RF pb st pr k r m z') w1 p g q m rb z regs W U) => (⟨(hW.at_ ra hra).1, hW.stepAll.2.2.1, (hW.at_ rc hrc).1⟩ : _ ∧ _ ∧ _))
                clear hxa hxc kaf kcf j3 j5
                generalize x.s.write (addrW (regs.getD ra 0) : Nat) st.m (regs.getD rc 0) = z at *
                obtain ⟨z1, z2⟩ := z
                simp only at HSE HRS HK2
                generalize regs.getD ra 0 = xa at *
                generalize regs.getD rc 0 = xc at *
                have E1 : IntKind.i64.wrap (ra : Int) = (ra : Int) := by rw [IntKind.wrap_i64]; omega
                have E2 : IntKind.i64.wrap (rc : Int) = (rc : Int) := by rw [IntKind.wrap_i64]; omega
                go_upto_region 27 with fail
                go_region_held3 (fun W => W.cell? ⟨rb, ra, none⟩ = some (.int .u64 (xa : Int)) ∧ W.cell? ⟨pb, 4, none⟩ = some (.int .i64 st.m) ∧ W.cell? ⟨rb, rc, none⟩ = some (.int .u64 (xc : Int))) (go_keep)
                  (first
                    | (go_at_call 11; refine (HSE.out _ ?_).mono ?_; exact HM6.out.next (rf_keeps pb st pr k r m x) (Below.refl w6.heap.size w6).drew; rintro e7 w7 ⟨rfl, hs7⟩; have H7 := Lib.hid hs7; clear hs7; obtain ⟨i1, i2, i3⟩ := HAT.out _ _ _ _ H7.out)
                    | (go_at_call 12; refine (HRS.out _ ⟨z2, x.cy⟩ U5 ?_).mono ?_; (first | exact H7.out | exact H7.out.next (rf_keeps pb st pr k r m x) (Below.refl w7.heap.size w7).drew); rintro e8 w8 ⟨rfl, U8, hs8⟩; have H8 := Lib.hid hs8; clear hs8; obtain ⟨l1, l2, l3⟩ := HAT.out _ _ _ _ H8.out))
                all_goals
                  go_wp2_with fail
                  go_meet
                  exact ⟨0, z1, rfl, rfl, rfl, rfl, Lib.hid ⟨⟨z2, x.cy⟩, _, _, H8.out.unbox, HK2.out, by show x.cy ≤ _; omega⟩⟩
            · have B1 : (st.k == 1) = false := by simp [hk1]
              clear hk1
              by_cases hk2 : st.k = 2
              · as_aux_lemma =>
                  have B2 : (st.k == 2) = true := by simp [hk2]
                  clear hk2
                  have HSE := Lib.hid (fun (W : World) (hW : MidX (RF pb st pr k r m x) w1 p g q m rb x regs W U5) => sx_Get (rf_keeps pb st pr k r m x) hW (regs.getD rc 0) hxc st.m)
                  have HRS := Lib.hid (fun (W : World) (hW : MidX (RF pb st pr k r m x) w1 p g q m rb x regs W U5) => f_Get hW (regs.getD rc 0) hxc st.m)
                  have HAT := Lib.hid (fun (W : World) (hW : MidX (RF pb st pr k r m x) w1 p g q m rb x regs W U5) => (⟨(hW.at_ rc hrc).1, hW.stepAll.2.2.1⟩ : _ ∧ _))
                  have hgs := HM6.out.getSmall (addrW (regs.getD rc 0) : Nat) st.m
                  clear hxa hxc kaf kcf ka j3 j5
                  generalize hGet x.s.L (addrW (regs.getD rc 0) : Nat) st.m = z at *
                  obtain ⟨z1, z2⟩ := z
                  simp only at HSE HRS hgs
                  generalize regs.getD rc 0 = xc at *
                  have E1 : IntKind.i64.wrap (ra : Int) = (ra : Int) := by rw [IntKind.wrap_i64]; omega
                  have E2 : IntKind.i64.wrap (rc : Int) = (rc : Int) := by rw [IntKind.wrap_i64]; omega
                  go_upto_region 29 with fail
                  go_region_held3 (fun W => W.cell? ⟨rb, rc, none⟩ = some (.int .u64 (xc : Int)) ∧ W.cell? ⟨pb, 4, none⟩ = some (.int .i64 st.m)) (go_keep)
                    ((go_at_call 13; refine (HSE.out _ ?_).mono ?_; exact HM6.out.next (rf_keeps pb st pr k r m x) (Below.refl w6.heap.size w6).drew; rintro e7 w7 ⟨rfl, hs7, _⟩; have H7 := Lib.hid hs7; clear hs7; obtain ⟨i1, i2⟩ := HAT.out _ H7.out))
                  all_goals
                    clear kc j4
                    obtain ⟨kc, j4⟩ := HAT.out _ H7.out
                    go_upto_region 30 with fail
                    go_region_held3 (fun W => W.cell? ⟨rb, rc, none⟩ = some (.int .u64 (xc : Int)) ∧ W.cell? ⟨pb, 4, none⟩ = some (.int .i64 st.m)) (go_keep)
                      ((go_at_call 14; refine (HRS.out _ ?_).mono ?_; exact H7.out.next (rf_keeps pb st pr k r m x) (Below.refl w7.heap.size w7).drew; rintro e8 w8 ⟨rfl, hs8⟩; have H8 := Lib.hid hs8; clear hs8; obtain ⟨l1, l2⟩ := HAT.out _ H8.out))
                    all_goals
                      obtain ⟨ka, kaf⟩ := H8.out.at_ ra hra
                      by_cases hz2 : z2 = 0
                      · subst hz2
                        have HPK := Lib.hid (H8.out.poke (rf_keeps pb st pr k r m x) ra z1 hgs)
                        go_wp2_with fail
                        go_meet
                        exact ⟨z1, 0, rfl, rfl, rfl, rfl, Lib.hid ⟨x, _, _, HPK.out.unbox, HKO.out, by omega⟩⟩
                      · have B9 : (z2 == 0) = false := by rw [beq_eq_false_iff_ne]; exact hz2
                        clear hz2
                        go_wp2_with fail
                        go_meet
                        exact ⟨z1, z2, rfl, rfl, rfl, rfl, Lib.hid ⟨x, _, _, H8.out.unbox, HKO.out, by omega⟩⟩
              · have B2 : (st.k == 2) = false := by simp [hk2]
                clear hk2
                by_cases hk3 : st.k = 3
                · as_aux_lemma =>
                    have B3 : (st.k == 3) = true := by simp [hk3]
                    clear hk3
                    have hpk := sx_Pick (rf_keeps pb st pr k r m x) HT1.out HM6.out (by have := HCY.out; omega)
                    have hrp := fun (W : World) (z : SS) (U : Nat → Prop) (hW : MidX (RF pb st pr k r m x) w1 p g q m rb z regs W U) => f_Pick hW HVX.out (by have := HCY.out; omega)
                    have hcyp := pick_cy x regs
                    have HK2 := Lib.hid (kinds_pick HINV.out HKO.out regs)
                    have HPI := Lib.hid hpk
                    have HRP := Lib.hid hrp
                    clear hpk hrp ka kaf kc kcf j3 j4 j5
                    generalize x.pick regs = y at *
                    go_wp2_with fail
                    refine HPI.out.mono ?_
                    rintro e7 w7 ⟨rfl, hm7⟩
                    have HM7 := Lib.hid hm7
                    clear hm7
                    go_wp2_with fail
                    refine (HRP.out _ _ _ HM7.out).mono ?_
                    rintro e8 w8 ⟨rfl, U8, hm8⟩
                    have HM8 := Lib.hid hm8
                    clear hm8
                    go_wp2_with fail
                    go_meet
                    exact ⟨0, 0, rfl, rfl, rfl, rfl, Lib.hid ⟨y, regs, _, HM8.out.unbox, HK2.out, by omega⟩⟩
                · have B3 : (st.k == 3) = false := by simp [hk3]
                  clear hk3
                  by_cases hk4 : st.k = 4
                  · as_aux_lemma =>
                      have B4 : (st.k == 4) = true := by simp [hk4]
                      clear hk4
                      obtain ⟨yv, hyv, hyl⟩ := word_of_int st.n
                      have HYV := Lib.hid hyv
                      have HPK := Lib.hid (HM6.out.poke (rf_keeps pb st pr k r m x) ra yv hyl)
                      clear hyv kc kcf j4 j5
                      go_wp2_with fail
                      rw [HYV.out]
                      go_meet
                      exact ⟨0, 0, rfl, rfl, rfl, rfl, Lib.hid ⟨x, _, _, HPK.out.unbox, HKO.out, by omega⟩⟩
                  · have B4 : (st.k == 4) = false := by simp [hk4]
                    clear hk4
                    by_cases hk5 : st.k = 5
                    · as_aux_lemma =>
                        have B5 : (st.k == 5) = true := by simp [hk5]
                        clear hk5
                        have HPI := Lib.hid (sx_Text (rf_keeps pb st pr k r m x) HT1.out HM6.out HCY.out st.t htz)
                        have HRP := Lib.hid (fun (W : World) (z : SS) (U : Nat → Prop) (hW : MidX (RF pb st pr k r m x) w1 p g q m rb z regs W U) => f_Text hW HVX.out HCY.out st.t)
                        clear ka kaf kc kcf j3 j4
                        go_wp2_with fail
                        refine HPI.out.mono ?_
                        rintro e7 w7 ⟨z, hz, rfl, hm7⟩
                        have HM7 := Lib.hid hm7
                        have HZ := Lib.hid hz
                        have HF := Lib.hid (textV_facts hz HINV.out (by omega) HKO.out)
                        obtain ⟨_, _, _, j5, hpb7⟩ := hm7.stepAll
                        clear hm7 hz
                        go_wp2_with fail
                        refine (HRP.out _ _ _ HM7.out).mono ?_
                        rintro e8 w8 ⟨z', hz', rfl, U8, hm8⟩
                        obtain rfl := textV_one HZ.out hz'
                        have HM8 := Lib.hid hm8
                        obtain ⟨ka, kaf⟩ := hm8.at_ ra hra
                        clear hm8 hz' HZ HPI HRP j5
                        obtain ⟨z1, z2, z3⟩ := z
                        obtain ⟨hf1, hf2, hf3⟩ := HF.out
                        have HK2 := Lib.hid hf1
                        simp only at hf2 hf3
                        clear hf1 HF
                        by_cases hz2 : z2 = 0
                        · subst hz2
                          have HPK := Lib.hid (HM8.out.poke (rf_keeps pb st pr k r m z3) ra z1 hf3)
                          go_wp2_with fail
                          go_meet
                          exact ⟨z1, 0, rfl, rfl, rfl, rfl, Lib.hid ⟨z3, _, _, HPK.out.unbox, HK2.out, by omega⟩⟩
                        · have B9 : (z2 == 0) = false := by rw [beq_eq_false_iff_ne]; exact hz2
                          clear hz2
                          go_wp2_with fail
                          go_meet
                          exact ⟨z1, z2, rfl, rfl, rfl, rfl, Lib.hid ⟨z3, _, _, HM8.out.unbox, HK2.out, by omega⟩⟩
                    · have B5 : (st.k == 5) = false := by simp [hk5]
                      clear hk5
                      by_cases hk6 : st.k = 6
                      · as_aux_lemma =>
                          have B6 : (st.k == 6) = true := by simp [hk6]
                          clear hk6
                          have HPK := Lib.hid (HM6.out.poke (rf_keeps pb st pr k r m x) ra (regs.getD rc 0) hxc)
                          clear j3 j4 j5
                          go_wp2_with fail
                          go_meet
                          exact ⟨0, 0, rfl, rfl, rfl, rfl, Lib.hid ⟨x, _, _, HPK.out.unbox, HKO.out, by omega⟩⟩
                      · have B6 : (st.k == 6) = false := by simp [hk6]
                        clear hk6
                        as_aux_lemma =>
                          obtain ⟨yv, hyv, hyl⟩ := word_of_int st.n
                          have HYV := Lib.hid hyv
                          clear hyv
                          have HK2 := Lib.hid (kinds_write HKO.out (addrW (regs.getD ra 0) : Nat) st.m yv)
                          have HSE := Lib.hid (fun (W : World) (hW : MidX (RF pb st pr k r m x) w1 p g q m rb x regs W U5) => sx_Set (rf_keeps pb st pr k r m x) hW (regs.getD ra 0) hxa st.m yv hyl)
                          have HRS := Lib.hid (fun (W : World) (z : SS) (U : Nat → Prop) (hW : MidX (RF pb st pr k r m x) w1 p g q m rb z regs W U) => f_Set hW HVX.out (regs.getD ra 0) hxa st.m yv)
                          have HAT := Lib.hid (fun (W : World) (z z' : SS) (U : Nat → Prop) (hW : MidX (RF pb st pr k r m z') w1 p g q m rb z regs W U) => (⟨(hW.at_ ra hra).1, hW.stepAll.2.2.1, hW.stepAll.2.1⟩ : _ ∧ _ ∧ _))
                          clear hxa hxc kaf kcf kc j5
                          generalize x.s.write (addrW (regs.getD ra 0) : Nat) st.m yv = z at *
                          obtain ⟨z1, z2⟩ := z
                          simp only at HSE HRS HK2
                          generalize regs.getD ra 0 = xa at *
                          have E1 : IntKind.i64.wrap (ra : Int) = (ra : Int) := by rw [IntKind.wrap_i64]; omega
                          have E2 : IntKind.i64.wrap (rc : Int) = (rc : Int) := by rw [IntKind.wrap_i64]; omega
                          have E3 : IntKind.u64.wrap st.n = (yv : Int) := HYV.out
                          go_upto_region 20 with fail
                          go_region_held3 (fun W => W.cell? ⟨rb, ra, none⟩ = some (.int .u64 (xa : Int)) ∧ W.cell? ⟨pb, 4, none⟩ = some (.int .i64 st.m) ∧ W.cell? ⟨pb, 3, none⟩ = some (.int .i64 st.n)) (go_keep)
                            (first
                              | (go_at_call 11; refine (HSE.out _ ?_).mono ?_; exact HM6.out.next (rf_keeps pb st pr k r m x) (Below.refl w6.heap.size w6).drew; rintro e7 w7 ⟨rfl, hs7⟩; have H7 := Lib.hid hs7; clear hs7; obtain ⟨i1, i2, i3⟩ := HAT.out _ _ _ _ H7.out)
                              | (go_at_call 12; refine (HRS.out _ ⟨z2, x.cy⟩ U5 ?_).mono ?_; (first | exact H7.out | exact H7.out.next (rf_keeps pb st pr k r m x) (Below.refl w7.heap.size w7).drew); rintro e8 w8 ⟨rfl, U8, hs8⟩; have H8 := Lib.hid hs8; clear hs8; obtain ⟨l1, l2, l3⟩ := HAT.out _ _ _ _ H8.out))
                          all_goals
                            go_wp2_with fail
                            go_meet
                            exact ⟨0, z1, rfl, rfl, rfl, rfl, Lib.hid ⟨⟨z2, x.cy⟩, _, _, H8.out.unbox, HK2.out, by show x.cy ≤ _; omega⟩⟩
        case rest =>
          obtain ⟨va, er, rfl, rfl, rfl, rfl, HR⟩ := hcut
          clear HKO HM6 j0 j3 j4 j5
          obtain ⟨x9, regs9, T9, hm9, hk9, hc9⟩ := HR.out
          have HAS := Lib.hid (asks_any _ hm9 hk9)
          have HN9 := Lib.hid (fun (W : World) (hb : Below wc.heap.size wc W) => (show MidD w1 p g q m rb pr k r (i + 1) W from ⟨x9, regs9, T9, hm9.next (rst_keeps pr k r m x9) hb, hk9, hc9⟩))
          clear hm9 hk9 HR
          have B1 : ((va : Int) != (va : Int)) = false := by simp
          have B2 : (er != er) = false := by simp
          go_wp2_with fail
          refine HAS.out.mono ?_
          rintro e w9 ⟨rfl, hb9⟩
          have HN := Lib.hid (HN9.out _ hb9)
          clear hb9 HN9 HAS
          go_wp2_with fail
          go_roundw
          case rel => exact ⟨i + 1, by omega, by omega, by go_num, HN⟩
          case measure => simp [intOf]; omega
    · have g4 : decide ((i : Int) < (n : Int)) = false := decide_eq_false (by omega)
      go_wp2_with fail
      go_ret
      exact ⟨rfl, HEND.out⟩
    · have g4 : decide ((i : Int) < (n : Int)) = true := decide_eq_true (by omega)
      have g5 : decide ((i : Int) < 200) = false := decide_eq_false (by omega)
      go_wp2_with fail
      go_ret
      exact ⟨rfl, HEND.out⟩
end Go.Proofs.YtdkbgdjkdalalaaGreatDoor
