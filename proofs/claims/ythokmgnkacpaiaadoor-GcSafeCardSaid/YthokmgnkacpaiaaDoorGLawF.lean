/-
  The walk of the law GcSafe: whatever the input, it returns true and leaves what was there as it was. Condition: the table of math/bits holds what its initialiser lays.
-/
import Derived.Test.YthokmgnkacpaiaaDoorGLawS
import Derived.Test.YthokmgnkacpaiaaDoorGSafe
import Derived.Deep.CutBlock
namespace Go.Proofs.YthokmgnkacpaiaaDoor
open Go.RowKit
set_option maxHeartbeats 1000000 in
set_option maxRecDepth 100000 in
theorem safe_nil (words : Int) (A1 : Option Addr) (n1 c1 : Nat) (w : World) (hT : Tab w) (h : words < 2 ∨ 65536 < words) :
    Calls Tryd.prog 9 #[.int .i64 words, .slice A1 n1 c1] w (YesMade true w) := by
  have HT := Lib.hid hT
  clear hT
  go_enter Tryd.func9, Tryd.ntmps9
  go_wp2_with fail
  refine (awake3_any _ HT.out).mono ?_
  rintro e w1 ⟨rfl, hb⟩
  have HB := Lib.hid hb
  clear hb
  go_wp2_with fail
  refine (new_nil words _ h).mono ?_
  rintro e w' ⟨rfl, rfl⟩
  go_wp2_with fail
  go_ret
  exact ⟨rfl, HB.out⟩
set_option maxHeartbeats 1000000 in
set_option maxRecDepth 100000 in
theorem safe_great (words : Int) (A1 : Option Addr) (n1 c1 : Nat) (w : World) (hT : Tab w) (h : 2048 < words ∧ words ≤ 65536) :
    Calls Tryd.prog 9 #[.int .i64 words, .slice A1 n1 c1] w (YesMade true w) := by
  have HT := Lib.hid hT
  have g1 : decide (2048 < words) = true := decide_eq_true h.1
  clear hT
  go_enter Tryd.func9, Tryd.ntmps9
  go_wp2_with fail
  refine (awake3_any _ HT.out).mono ?_
  rintro e w1 ⟨rfl, hb⟩
  have HB := Lib.hid hb
  clear hb
  go_wp2_with fail
  refine (g_NewI words (by omega) (by omega) _).mono ?_
  rintro e w2 ⟨q, rfl, h2, hb2⟩
  have HB2 := Lib.hid (HB.out.trans (hb2.mono HB.out.size))
  clear h2 hb2
  go_wp2_with fail
  go_ret
  exact ⟨rfl, HB2.out⟩
/-- In the midst of the law: the registers' block stands beside the collector. -/
def MidS (g q m rb : Nat) (w : World) (regs : List Nat) (s : GS) (wr : World) : Prop := GIn (fun b => b < w.heap.size ∨ b = rb) wr g q m s ∧ Words wr 30 rb 6 regs ∧ regs.length = 6 ∧ SafeInv regs s ∧ Below w.heap.size w wr ∧ w.heap.size ≤ rb ∧ ∀ x ∈ regs, x < 18446744073709551616
theorem six_of (a : Int) : ∃ r : Nat, r < 6 ∧ wrap64 ((IntKind.u64.wrap a).tmod 6) = (r : Int) := by
  have h1 : 0 ≤ IntKind.u64.wrap a := by rw [IntKind.wrap_u64]; omega
  refine ⟨(IntKind.u64.wrap a % 6).toNat, by omega, ?_⟩
  rw [Int.tmod_eq_emod_of_nonneg h1]
  unfold wrap64
  omega
theorem MidS.lt {g q m rb : Nat} {w wr : World} {regs : List Nat} {s : GS} (h : MidS g q m rb w regs s wr) : rb < wr.heap.size := h.2.1.lt
theorem MidS.below {g q m rb : Nat} {w wr w' : World} {regs : List Nat} {s : GS} (h : MidS g q m rb w regs s wr) (hb : Below wr.heap.size wr w') : MidS g q m rb w regs s w' :=
  ⟨h.1.below hb, h.2.1.keep (hb.block rb h.lt), h.2.2.1, h.2.2.2.1, h.2.2.2.2.1.trans (hb.mono h.2.2.2.2.1.size), h.2.2.2.2.2⟩
theorem MidS.go {g q m rb : Nat} {w wr w' : World} {regs : List Nat} {s t : GS} (h : MidS g q m rb w regs s wr) (hs : GGo (fun b => b < w.heap.size ∨ b = rb) g q m t wr w') (ht : SafeInv regs t) : MidS g q m rb w regs t w' :=
  ⟨hs.1, h.2.1.keep (hs.2.block rb h.lt fun hn => hn (.inr rfl)), h.2.2.1, ht, h.2.2.2.2.1.trans (hs.2.below (fun _ hb => .inl hb) h.2.2.2.2.1.size), h.2.2.2.2.2⟩
theorem MidS.drew {g q m rb : Nat} {w wr : World} {regs : List Nat} {s : GS} (h : MidS g q m rb w regs s wr) : MidS g q m rb w regs s wr.drew := h.below (Below.refl _ wr).drew
theorem MidS.poke {g q m rb : Nat} {w wr : World} {regs : List Nat} {s : GS} (h : MidS g q m rb w regs s wr) (i x : Nat) (hx : x < 18446744073709551616) (ht : SafeInv (regs.set i x) s) : MidS g q m rb w (regs.set i x) s (wr.setCell ⟨rb, i, none⟩ (.int .u64 (x : Int))) := by
  obtain ⟨h1, h2, h3, _, h5, h6, h7⟩ := h
  have hk := h2.set i x
  have hz := hk.2.size
  refine ⟨?_, by have := hk.1; rw [h3] at *; exact this, by rw [List.length_set]; exact h3, ht, ?_, h6, fun y hy => (mem_set_or hy).elim (h7 y) (fun e => e ▸ hx)⟩
  · obtain ⟨U, u1, u2, u3, u4⟩ := h1
    exact ⟨U, u1.keep hz fun b hl hU => hk.2.block b hl fun e => u2 b hU (.inr (Option.some.inj e)), u2, fun b hU => Nat.lt_of_lt_of_le (u3 b hU) hz, fun b hF => Nat.lt_of_lt_of_le (u4 b hF) hz⟩
  · exact h5.setCell (p := ⟨rb, i, none⟩) h6 _
theorem MidS.pokeGo {g q m rb : Nat} {w wr w' : World} {regs : List Nat} {s t : GS} (h : MidS g q m rb w regs s wr) (hs : GGo (fun b => b < w.heap.size ∨ b = rb) g q m t wr w') (i x : Nat) (hx : x < 18446744073709551616) (ht : SafeInv (regs.set i x) t) : MidS g q m rb w (regs.set i x) t (w'.setCell ⟨rb, i, none⟩ (.int .u64 (x : Int))) := by
  obtain ⟨h1, h2, h3, _, h5, h6, h7⟩ := h
  have h2' : Words w' 30 rb 6 regs := h2.keep (hs.2.block rb h2.lt fun hn => hn (.inr rfl))
  have hk := h2'.set i x
  have hz := hk.2.size
  refine ⟨?_, by have := hk.1; rw [h3] at *; exact this, by rw [List.length_set]; exact h3, ht, ?_, h6, fun y hy => (mem_set_or hy).elim (h7 y) (fun e => e ▸ hx)⟩
  · obtain ⟨U, u1, u2, u3, u4⟩ := hs.1
    exact ⟨U, u1.keep hz fun b hl hU => hk.2.block b hl fun e => u2 b hU (.inr (Option.some.inj e)), u2, fun b hU => Nat.lt_of_lt_of_le (u3 b hU) hz, fun b hF => Nat.lt_of_lt_of_le (u4 b hF) hz⟩
  · exact (h5.trans (hs.2.below (fun _ hb => .inl hb) h5.size)).setCell (p := ⟨rb, i, none⟩) h6 _
theorem go_less {F G : Nat → Prop} {g q m : Nat} {t : GS} {w w' : World} (h : GGo F g q m t w w') (hG : ∀ b, G b → F b) : GGo G g q m t w w' := ⟨h.1.less hG, h.2.mono fun b hn hg => hn (hG b hg)⟩
theorem MidS.tab {g q m rb : Nat} {w wr : World} {regs : List Nat} {s : GS} (h : MidS g q m rb w regs s wr) (hT : Tab w) : Tab wr := hT.below h.2.2.2.2.1 hT.lt
theorem MidS.at_ {g q m rb : Nat} {w wr : World} {regs : List Nat} {s : GS} (h : MidS g q m rb w regs s wr) (i : Nat) (hi : i < 6) : wr.cell? ⟨rb, i, none⟩ = some (.int .u64 (regs.getD i 0 : Nat)) ∧ wr.frozen? ⟨rb, i, none⟩ = false := by
  have h1 := h.2.1
  exact ⟨h1.cell i (by rw [h.2.2.1]; exact hi), h1.frozen i⟩
set_option maxHeartbeats 4000000 in
set_option maxRecDepth 100000 in
theorem safe_walk (m : Nat) (A : Option Addr) (n c : Nat) (w : World) (hT : Tab w) (h : 2 ≤ m ∧ m ≤ 2048) (hS : Script3 w (fun b => b < w.heap.size) A n) (hn : n ≤ 9223372036854775807) :
    Calls Tryd.prog 9 #[.int .i64 (m : Int), .slice A n c] w (YesMade true w) := by
  have HT := Lib.hid hT
  have HS := Lib.hid hS
  have g1 : decide (2048 < (m : Int)) = false := decide_eq_false (by omega)
  clear hT hS
  go_enter Tryd.func9, Tryd.ntmps9
  go_wp2_with fail
  refine (awake3_any _ HT.out).mono ?_
  rintro e w1 ⟨rfl, hb⟩
  have HB := Lib.hid hb
  clear hb
  go_wp2_with fail
  refine (g_New m h.1 (by omega) _).mono ?_
  rintro e w2 ⟨q, rfl, h2, hb2⟩
  have H2 := Lib.hid h2
  have HB2 := Lib.hid (HB.out.trans (hb2.mono HB.out.size))
  have HZ := Lib.hid HB.out.size
  clear h2 hb2 HB
  go_wp2_with fail
  refine (v_New (fun b => b < w.heap.size) q m _ [] w2 H2.out (by omega) (fun b hb hf => by have := HZ.out; omega) (fun b hf => Nat.lt_of_lt_of_le hf HB2.out.size)).mono ?_
  rintro e w3 ⟨g, rfl, h3, hb3⟩
  have H3 := Lib.hid h3
  have HB3 := Lib.hid (HB2.out.trans (hb3.mono HB2.out.size))
  clear h3 hb3 H2 HB2 HZ
  go_wp2_with fail
  have HM : Hid (MidS g q m w3.heap.size w [1, 1, 1, 1, 1, 1] ⟨[], 0, [], [], 0⟩ (w3.alloc (.cells #[.int .u64 1, .int .u64 1, .int .u64 1, .int .u64 1, .int .u64 1, .int .u64 1] 30))) := Lib.hid (by
    have hb := HB3.out.size
    refine ⟨H3.out.more ((Below.refl _ _).alloc (Nat.le_refl _) _) (fun b hb => hb.imp id fun he => ⟨by omega, by simp; omega⟩), ?_, rfl, safe_start, HB3.out.alloc hb _, hb, by decide⟩
    exact ⟨rfl, .inr ⟨w3.heap.size, 6, _, rfl, Nat.zero_le _, heap_alloc_new w3 _, Nat.le_refl _, by unfold maxLen; decide, rfl, rfl⟩⟩)
  generalize w3.alloc (.cells #[.int .u64 1, .int .u64 1, .int .u64 1, .int .u64 1, .int .u64 1, .int .u64 1] 30) = w4 at *
  generalize w3.heap.size = rb at *
  clear H3 HB3
  go_loopw [8] (fun vi wr => ∃ (i : Nat) (regs : List Nat) (s : GS), i ≤ n ∧ i ≤ 200 ∧ vi = .int .i64 i ∧ Hid (MidS g q m rb w regs s wr)) (fun vi _ => n - (intOf vi).toNat)
  case atStart => exact ⟨0, _, _, by omega, by omega, by go_num, HM⟩
  case round =>
    obtain ⟨i, regs, s, hin, hi4, rfl, HMI⟩ := hrel
    clear HM
    have hcase : (i < n ∧ i < 200) ∨ n ≤ i ∨ (i < n ∧ 200 ≤ i) := by omega
    rcases hcase with ⟨hi1, hi2⟩ | hc | ⟨hc, hc4⟩
    · have g4 : decide ((i : Int) < (n : Int)) = true := decide_eq_true (by omega)
      have g5 : decide ((i : Int) < 200) = true := decide_eq_true (by omega)
      obtain ⟨st, b, off, rfl, hbl, _, e0, e1, e2, e3, e4, hsx, _⟩ := HS.out i hi1
      have hbw := HMI.out.2.2.2.2.1
      have k0 := (hbw.cell (p := ⟨b, off + i * 5, none⟩) hbl).trans e0
      have k1 := (hbw.cell (p := ⟨b, off + i * 5 + 1, none⟩) hbl).trans e1
      have k2 := (hbw.cell (p := ⟨b, off + i * 5 + 2, none⟩) hbl).trans e2
      have k3 := (hbw.cell (p := ⟨b, off + i * 5 + 3, none⟩) hbl).trans e3
      have k4 := (hbw.cell (p := ⟨b, off + i * 5 + 4, none⟩) hbl).trans e4
      have hbr : b < wr.heap.size := Nat.lt_of_lt_of_le hbl hbw.size
      clear hbw e0 e1 e2 e3 e4
      obtain ⟨ra, hra6, hra⟩ := six_of st.a
      obtain ⟨rc, hrc6, hrc⟩ := six_of st.b
      have HRA := Lib.hid hra
      have HRC := Lib.hid hrc
      clear hra hrc
      go_upto_block 2 with fail
      rw [HRA.out, HRC.out]
      have HM0 : Hid (MidS g q m rb w regs s (wr.alloc (.cells #[.int .i64 st.k, .int .i64 st.a, .int .i64 st.b, .int .u64 (st.x : Int), .slice st.ra st.rn st.rc] 57))) := Lib.hid (HMI.out.below (below_one _))
      have kW : (wr.alloc (.cells #[.int .i64 st.k, .int .i64 st.a, .int .i64 st.b, .int .u64 (st.x : Int), .slice st.ra st.rn st.rc] 57)).cell? ⟨wr.heap.size, 3, none⟩ = some (.int .u64 (st.x : Int)) := by rw [Lib.cell_of_heap (heap_alloc_new wr _)]; rfl
      have HP : Hid (GIn (fun b => (b < w.heap.size ∨ b = rb) ∨ b = wr.heap.size) (wr.alloc (.cells #[.int .i64 st.k, .int .i64 st.a, .int .i64 st.b, .int .u64 (st.x : Int), .slice st.ra st.rn st.rc] 57)) g q m s) := Lib.hid (HMI.out.1.more (below_one _) (fun b hb => hb.imp id fun he => ⟨by omega, by simp; omega⟩))
      have hpl : wr.heap.size < (wr.alloc (.cells #[.int .i64 st.k, .int .i64 st.a, .int .i64 st.b, .int .u64 (st.x : Int), .slice st.ra st.rn st.rc] 57)).heap.size := by simp
      generalize wr.alloc (.cells #[.int .i64 st.k, .int .i64 st.a, .int .i64 st.b, .int .u64 (st.x : Int), .slice st.ra st.rn st.rc] 57) = w5 at *
      clear k0 k1 k2 k3 k4 HMI hbr HRA HRC
      generalize wr.heap.size = p at *
      go_cut [12, 13, 14, 15, 16, 17] from 60 to 151 (fun _ _ _ _ _ _ wx => Hid (∃ regs s, MidS g q m rb w regs s wx))
      case first =>
        have g6 : (ra : Int) < 6 := by omega
        have g7 : (rc : Int) < 6 := by omega
        have g8 : (0 : Int) ≤ (ra : Int) := by omega
        have g9 : (0 : Int) ≤ (rc : Int) := by omega
        obtain ⟨ka, kaf⟩ := HM0.out.at_ ra hra6
        obtain ⟨kc, kcf⟩ := HM0.out.at_ rc hrc6
        have hl6 : regs.length = 6 := HM0.out.2.2.1
        have hxa : regs.getD ra 0 ∈ regs := getD_mem (by omega)
        have hxc : regs.getD rc 0 ∈ regs := getD_mem (by omega)
        have hxa64 := HM0.out.2.2.2.2.2.2 _ hxa
        have hxc64 := HM0.out.2.2.2.2.2.2 _ hxc
        have HSF := Lib.hid HM0.out.2.2.2.1
        by_cases hk0 : st.k = 0
        · have B0 : (st.k == 0) = true := by simp [hk0]
          clear hk0 kW HP
          have hal := v_Alloc _ g q m s _ HM0.out.1 6 (rc : Int)
          have hsa := HSF.out.alloc HM0.out.1.inv (by omega) (rc : Int) ra
          by_cases he : (s.alloc m 6 rc).2.1 = 0
          · obtain ⟨p1, p2, hsf⟩ := hsa.2 he
            obtain ⟨at_, hat⟩ := Int.eq_ofNat_of_zero_le p1
            rw [hat] at p2 hsf hal
            rw [he] at hal
            obtain ⟨y, hy⟩ : ∃ y, y = 2 * at_ := ⟨_, rfl⟩
            have HRF : Hid (∀ W, Calls Tryd.prog 44 #[.int .i64 (at_ : Int)] W fun e w' => e = .returned (.int .u64 (y : Int)) ∧ W = w') := Lib.hid (fun W => by rw [hy]; exact ref_any at_ (by omega) W)
            rw [Int.toNat_natCast, ← hy] at hsf
            have hy64 : y < 18446744073709551616 := by omega
            have HS2 := Lib.hid hsf
            have HAL := Lib.hid hal
            have HAT : Hid (SafeInv regs s) := HSF
            clear hsa he hat hsf hal hy p1 p2 ka kc hxa hxc hxa64 hxc64
            go_wp2_with fail
            refine HAL.out.mono ?_
            rintro e w6 ⟨rfl, h6⟩
            have hm6 : Hid (GGo (fun b => b < w.heap.size ∨ b = rb) g q m (s.alloc m 6 rc).2.2 w5 w6) := Lib.hid h6
            clear h6
            have kx : ∃ v, w6.cell? ⟨rb, ra, none⟩ = some v := ⟨_, ((hm6.out.2.cell (p := ⟨rb, ra, none⟩) (.inr rfl) HM0.out.lt).trans (HM0.out.at_ ra hra6).1)⟩
            obtain ⟨v, kx⟩ := kx
            have kf : w6.frozen? ⟨rb, ra, none⟩ = false := by
              have hwd : Words w6 30 rb 6 regs := HM0.out.2.1.keep (hm6.out.2.block rb HM0.out.lt fun hn => hn (.inr rfl))
              exact hwd.frozen ra
            go_wp2_with fail
            refine (HRF.out _).mono ?_
            rintro e w' ⟨rfl, rfl⟩
            go_wp2_with fail
            go_meet
            refine Lib.hid ⟨regs.set ra y, (s.alloc m 6 rc).2.2, ?_⟩
            exact MidS.pokeGo HM0.out hm6.out ra y hy64 HS2.out
          · have HS2 := Lib.hid (hsa.1 he)
            have B1 : ((s.alloc m 6 rc).2.1 == 0) = false := by rw [beq_eq_false_iff_ne]; exact he
            have HAL := Lib.hid hal
            clear hsa he hal ka kc hxa hxc hxa64 hxc64
            generalize hz : s.alloc m 6 rc = z at *
            obtain ⟨z1, z2, z3⟩ := z
            clear hz
            simp only at *
            go_wp2_with fail
            refine HAL.out.mono ?_
            rintro e w6 ⟨rfl, h6⟩
            have HM6 := Lib.hid (HM0.out.go h6 HS2.out)
            clear h6
            go_wp2_with fail
            go_meet
            exact Lib.hid ⟨_, _, HM6.out⟩
        · have B0 : (st.k == 0) = false := by simp [hk0]
          clear hk0
          by_cases hk1 : st.k = 1
          · have B1 : (st.k == 1) = true := by simp [hk1]
            clear hk1
            have HN := Lib.hid (fun W => isNum_any (regs.getD ra 0) hxa64 W)
            by_cases ho : regs.getD ra 0 % 2 = 1
            · have HN2 : Hid (∀ W, Calls Tryd.prog 45 #[.int .u64 (regs.getD ra 0 : Nat)] W (BoolSame true W)) := Lib.hid (fun W => by have := HN.out W; rw [decide_eq_true ho] at this; exact this)
              clear HN ho hxa hxc hxa64 hxc64 kc kW HP
              generalize regs.getD ra 0 = x at *
              go_wp2_with fail
              refine (HN2.out _).mono ?_
              rintro e w' ⟨rfl, rfl⟩
              go_wp2_with fail
              go_meet
              exact Lib.hid ⟨_, _, HM0.out⟩
            · have HN2 : Hid (∀ W, Calls Tryd.prog 45 #[.int .u64 (regs.getD ra 0 : Nat)] W (BoolSame false W)) := Lib.hid (fun W => by have := HN.out W; rw [decide_eq_false ho] at this; exact this)
              have HAD := Lib.hid (fun W => addr_any (regs.getD ra 0) hxa64 W)
              obtain ⟨o, hob⟩ := isIn_some (HSF.out.alive hxa ho)
              have hsz := v_Size _ g q m s _ HM0.out.1 (addrW (regs.getD ra 0) : Nat)
              rw [hSize_at hob] at hsz
              have HSZ := Lib.hid hsz
              have hfl : o.fs.length ≤ 65536 := lies_fields HM0.out.1.inv.lies (by omega) o (find_mem hob).1
              have HWR := Lib.hid (fun (a i : Int) => HSF.out.write a i (regs.getD rc 0) hxc)
              clear HN ho hsz hob hxa hxc hxa64
              generalize addrW (regs.getD ra 0) = ad at *
              generalize regs.getD ra 0 = x at *
              generalize regs.getD rc 0 = y at *
              generalize o.fs.length = nf at *
              by_cases hn0 : nf = 0
              · subst hn0
                clear kW HP
                go_wp2_with fail
                refine (HN2.out _).mono ?_
                rintro e w' ⟨rfl, rfl⟩
                go_wp2_with fail
                refine (HAD.out _).mono ?_
                rintro e w' ⟨rfl, rfl⟩
                go_wp2_with fail
                refine HSZ.out.mono ?_
                rintro e w' ⟨rfl, rfl⟩
                go_wp2_with fail
                go_meet
                exact Lib.hid ⟨_, _, HM0.out⟩
              · have g10 : decide (0 < (nf : Int)) = true := decide_eq_true (by omega)
                have g11 : 0 < nf := by omega
                clear hn0
                go_wp2_with fail
                refine (HN2.out _).mono ?_
                rintro e w' ⟨rfl, rfl⟩
                go_wp2_with fail
                refine (HAD.out _).mono ?_
                rintro e w' ⟨rfl, rfl⟩
                go_wp2_with fail
                refine HSZ.out.mono ?_
                rintro e w' ⟨rfl, rfl⟩
                go_upto_region 27 with fail
                have E1 : IntKind.u64.wrap (nf : Int) = (nf : Int) := by rw [IntKind.wrap_u64]; omega
                have E2 : IntKind.i64.wrap (ra : Int) = (ra : Int) := by rw [IntKind.wrap_i64]; omega
                have E3 : IntKind.i64.wrap (rc : Int) = (rc : Int) := by rw [IntKind.wrap_i64]; omega
                have B2 : ((nf : Int) == 0) = false := by rw [beq_eq_false_iff_ne]; omega
                have B3 : ¬ ((nf : Int) = 0) := by omega
                have B4 : ¬ (nf = 0) := by omega
                have hrl : rb < w5.heap.size := HM0.out.lt
                go_region_held3 (fun W => W.cell? ⟨rb, ra, none⟩ = some (.int .u64 (x : Int)) ∧ W.cell? ⟨p, 3, none⟩ = some (.int .u64 (st.x : Int)) ∧ W.cell? ⟨rb, rc, none⟩ = some (.int .u64 (y : Int))) (go_keep)
                  (first | (go_at_call 47; refine (HAD.out _).mono ?_; rintro e w' ⟨rfl, rfl⟩) | (go_at_call 27; refine (v_Write (fun b => (b < w.heap.size ∨ b = rb) ∨ b = p) g q m s _ ?_ _ _ _ hxc64).mono ?_; exact HP.out.drew; rintro e w6 ⟨rfl, hs6⟩; have H6 := Lib.hid hs6; clear hs6; have j1 := (H6.out.2.cell (p := ⟨rb, ra, none⟩) (.inl (.inr rfl)) hrl).trans ka; have j2 := (H6.out.2.cell (p := ⟨p, 3, none⟩) (.inr rfl) hpl).trans kW; have j3 := (H6.out.2.cell (p := ⟨rb, rc, none⟩) (.inl (.inr rfl)) hrl).trans kc))
                all_goals
                  clear E1 E2 E3
                  go_wp2_with fail
                  go_meet
                  exact Lib.hid ⟨_, _, HM0.out.drew.go (go_less H6.out fun b hb => .inl hb) (HWR.out _ _)⟩
          · have B1 : (st.k == 1) = false := by simp [hk1]
            clear hk1
            by_cases hk2 : st.k = 2
            · have B2 : (st.k == 2) = true := by simp [hk2]
              have hbg := v_Begin _ g q m s _ HM0.out.1 (some ⟨rb, 0, none⟩) 6 6 regs ⟨hl6, HM0.out.2.2.2.2.2.2, fun i hi => ⟨rb, 0, rfl, HM0.out.lt, .inr rfl, by rw [Nat.zero_add]; exact (HM0.out.at_ i hi).1⟩⟩ (by decide)
              have HBG := Lib.hid hbg
              have HS2 := Lib.hid (HSF.out.begin HM0.out.1.inv)
              clear hk2 hbg hxa hxc hxa64 hxc64 ka kc kW HP
              go_wp2_with fail
              refine HBG.out.mono ?_
              rintro e w6 ⟨rfl, h6⟩
              have HM6 := Lib.hid (HM0.out.go h6 HS2.out)
              clear h6
              go_wp2_with fail
              go_meet
              exact Lib.hid ⟨_, _, HM6.out⟩
            · have B2 : (st.k == 2) = false := by simp [hk2]
              clear hk2
              by_cases hk3 : st.k = 3
              · have B3 : (st.k == 3) = true := by simp [hk3]
                have HBG := Lib.hid (v_Step _ g q m s _ HM0.out.1 (HM0.out.tab HT.out))
                have HS2 := Lib.hid (HSF.out.step HM0.out.1.inv)
                clear hk3 hxa hxc hxa64 hxc64 ka kc kW HP
                go_wp2_with fail
                refine HBG.out.mono ?_
                rintro e w6 ⟨rfl, h6⟩
                have HM6 := Lib.hid (HM0.out.go h6 HS2.out)
                clear h6
                go_wp2_with fail
                go_meet
                exact Lib.hid ⟨_, _, HM6.out⟩
              · have B3 : (st.k == 3) = false := by simp [hk3]
                clear hk3
                by_cases hk4 : st.k = 4
                · have B4 : (st.k == 4) = true := by simp [hk4]
                  have HPK := Lib.hid (HM0.out.poke ra 1 (by decide) (HSF.out.number ra 1 rfl))
                  clear hk4 hxa hxc hxa64 hxc64 kc kW HP
                  generalize regs.getD ra 0 = x at *
                  go_wp2_with fail
                  go_meet
                  exact Lib.hid ⟨_, _, HPK.out⟩
                · have B4 : (st.k == 4) = false := by simp [hk4]
                  clear hk4
                  have HN := Lib.hid (fun W => isNum_any (regs.getD rc 0) hxc64 W)
                  by_cases ho : regs.getD rc 0 % 2 = 1
                  · have HN2 : Hid (∀ W, Calls Tryd.prog 45 #[.int .u64 (regs.getD rc 0 : Nat)] W (BoolSame true W)) := Lib.hid (fun W => by have := HN.out W; rw [decide_eq_true ho] at this; exact this)
                    clear HN ho hxa hxc hxa64 hxc64 ka kW HP
                    generalize regs.getD rc 0 = x at *
                    go_wp2_with fail
                    refine (HN2.out _).mono ?_
                    rintro e w' ⟨rfl, rfl⟩
                    go_wp2_with fail
                    go_meet
                    exact Lib.hid ⟨_, _, HM0.out⟩
                  · have HN2 : Hid (∀ W, Calls Tryd.prog 45 #[.int .u64 (regs.getD rc 0 : Nat)] W (BoolSame false W)) := Lib.hid (fun W => by have := HN.out W; rw [decide_eq_false ho] at this; exact this)
                    have HAD := Lib.hid (fun W => addr_any (regs.getD rc 0) hxc64 W)
                    have HGT := Lib.hid (fun (W : World) (i : Int) (hW : GIn (fun b => b < w.heap.size ∨ b = rb) W g q m s) => v_Get _ g q m s W hW (addrW (regs.getD rc 0) : Nat) i)
                    have HLD := Lib.hid (fun (i : Int) (he : (hGet s.L (addrW (regs.getD rc 0) : Nat) i).2 = 0) => HSF.out.load ra _ hxc ho i he)
                    have HSM : Hid (∀ i : Int, (hGet s.L (addrW (regs.getD rc 0) : Nat) i).1 < 18446744073709551616) := Lib.hid (fun i => by
                      obtain ⟨S, hh⟩ := HM0.out.1.heap
                      exact hGet_small hh _ i)
                    clear HN ho hxa hxc hxa64 hxc64 HP
                    generalize addrW (regs.getD rc 0) = ad at *
                    generalize regs.getD rc 0 = x at *
                    go_wp2_with fail
                    refine (HN2.out _).mono ?_
                    rintro e w' ⟨rfl, rfl⟩
                    go_upto_region 16 with fail
                    have E3 : IntKind.i64.wrap (rc : Int) = (rc : Int) := by rw [IntKind.wrap_i64]; omega
                    have g10 : (0 : Int) ≤ (st.x : Int) := by omega
                    go_quiet ((first | (go_at_call 47; exact Calls.quiet_of_same ((HAD.out _).mono fun e w' hh => ⟨hh.1, hh.2.symm⟩)) | (go_at_call 20; exact Calls.quiet_of_same ((HGT.out _ _ (HM0.out.1.below (below_draws (Below.refl _ _) _))).mono fun e w' hh => ⟨hh.1, hh.2.symm⟩))))
                    go_wp2_with fail
                    · go_meet
                      exact Lib.hid ⟨_, _, ((HM0.out.below (below_draws (Below.refl _ _) _)).poke ra _ (HSM.out _) (HLD.out _ (eq_of_beq (by assumption))))⟩
                    · go_meet
                      exact Lib.hid ⟨_, _, HM0.out.below (below_draws (Below.refl _ _) _)⟩
      case rest =>
        have HR := hcut
        clear hcut HM0 kW
        obtain ⟨regs2, s2, hm2⟩ := HR.out
        have HM2 := Lib.hid hm2
        have hl6 : regs2.length = 6 := hm2.2.2.1
        clear hm2 HR
        go_wp2_with fail
        go_loop [154] (fun vk => ∃ k : Nat, k ≤ 6 ∧ vk = .int .i64 k) (fun vk => 6 - (intOf vk).toNat)
        case atStart => exact ⟨0, by omega, by go_num⟩
        case round =>
          obtain ⟨k, hk, rfl⟩ := hrel
          by_cases hk6 : k < 6
          · have g6 : decide ((k : Int) < 6) = true := decide_eq_true (by omega)
            have g7 : (k : Int) < 6 := by omega
            obtain ⟨kx, _⟩ := HM2.out.at_ k hk6
            have hxm : regs2.getD k 0 ∈ regs2 := getD_mem (by omega)
            have hx64 : regs2.getD k 0 < 18446744073709551616 := HM2.out.2.2.2.2.2.2 _ hxm
            have HA := Lib.hid (addr_any (regs2.getD k 0) hx64 wc)
            have HN := Lib.hid (isNum_any (regs2.getD k 0) hx64 wc)
            have hkd := v_Kind _ g q m s2 _ HM2.out.1 (addrW (regs2.getD k 0) : Nat)
            by_cases ho : regs2.getD k 0 % 2 = 1
            · rw [decide_eq_true ho] at HN
              have HK := Lib.hid hkd
              clear ho hxm hx64 hkd
              generalize hKind s2.L (addrW (regs2.getD k 0) : Nat) = kd at *
              generalize addrW (regs2.getD k 0) = ad at *
              generalize regs2.getD k 0 = x at *
              obtain ⟨kd1, kd2⟩ := kd
              go_wp2_with fail
              refine HA.out.mono ?_
              rintro e w' ⟨rfl, rfl⟩
              go_wp2_with fail
              refine HK.out.mono ?_
              rintro e w' ⟨rfl, rfl⟩
              go_wp2_with fail
              refine HN.out.mono ?_
              rintro e w' ⟨rfl, rfl⟩
              go_wp2_with fail
              go_round
              case rel => exact ⟨k + 1, by omega, by go_num⟩
              case measure => simp [intOf]; omega
            · rw [decide_eq_false ho] at HN
              obtain ⟨o, hob⟩ := isIn_some (HM2.out.2.2.2.1.alive hxm ho)
              rw [hKind_at hob] at hkd
              have HK := Lib.hid hkd
              clear ho hxm hx64 hkd hob
              generalize addrW (regs2.getD k 0) = ad at *
              generalize regs2.getD k 0 = x at *
              generalize o.kind = kd at *
              go_wp2_with fail
              refine HA.out.mono ?_
              rintro e w' ⟨rfl, rfl⟩
              go_wp2_with fail
              refine HK.out.mono ?_
              rintro e w' ⟨rfl, rfl⟩
              go_wp2_with fail
              refine HN.out.mono ?_
              rintro e w' ⟨rfl, rfl⟩
              go_wp2_with fail
              go_round
              case rel => exact ⟨k + 1, by omega, by go_num⟩
              case measure => simp [intOf]; omega
          · have g6 : decide ((k : Int) < 6) = false := decide_eq_false (by omega)
            go_wp2_with fail
            go_roundw
            case rel => exact ⟨i + 1, regs2, s2, by omega, by omega, by go_num, HM2⟩
            case measure => simp [intOf]; omega
    · have g4 : decide ((i : Int) < (n : Int)) = false := decide_eq_false (by omega)
      go_wp2_with fail
      go_ret
      exact ⟨rfl, HMI.out.2.2.2.2.1⟩
    · have g4 : decide ((i : Int) < (n : Int)) = true := decide_eq_true (by omega)
      have g5 : decide ((i : Int) < 200) = false := decide_eq_false (by omega)
      go_wp2_with fail
      go_ret
      exact ⟨rfl, HMI.out.2.2.2.2.1⟩
theorem law_Safe (words : Int) (A1 : Option Addr) (n1 c1 : Nat) (w : World) (hT : Tab w) (_hw : -9223372036854775808 ≤ words ∧ words ≤ 9223372036854775807)
    (hS1 : Script3 w (fun b => b < w.heap.size) A1 n1) (hn1 : n1 ≤ 9223372036854775807) :
    Calls Tryd.prog 9 #[.int .i64 words, .slice A1 n1 c1] w (YesMade true w) := by
  by_cases h1 : 2 ≤ words ∧ words ≤ 2048
  · have h3 := safe_walk words.toNat A1 n1 c1 w hT (by omega) hS1 hn1
    rw [Int.toNat_of_nonneg (by omega)] at h3
    exact h3
  · by_cases h2 : 2048 < words ∧ words ≤ 65536
    · exact safe_great words A1 n1 c1 w hT h2
    · exact safe_nil words A1 n1 c1 w hT (by omega)
end Go.Proofs.YthokmgnkacpaiaaDoor
