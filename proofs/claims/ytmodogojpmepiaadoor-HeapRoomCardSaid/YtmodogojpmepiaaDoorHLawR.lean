/-
  The walk of the law HeapRoom: whatever the input, it returns true and leaves what was there as it was. Condition: the table of math/bits holds what its initialiser lays.
-/
import Derived.Test.YtmodogojpmepiaaDoorHCounts
import Derived.Test.YtmodogojpmepiaaDoorHLawF
namespace Go.Proofs.YtmodogojpmepiaaDoor
open Go.RowKit
theorem room_none (words : Int) (A : Option Addr) (n c : Nat) (w : World) (hT : Tab w) (h : words < 2 ∨ 65536 < words) :
    Calls Tryd.prog 5 #[.int .i64 words, .slice A n c] w (YesMade true w) := by
  have HT := Lib.hid hT
  clear hT
  go_enter Tryd.func5, Tryd.ntmps5
  go_wp2_with fail
  refine (awake_any _ HT.out).mono ?_
  rintro e w1 ⟨rfl, hb⟩
  have HB := Lib.hid hb
  clear hb
  go_wp2_with fail
  refine (new_nil words _ h).mono ?_
  rintro e w' ⟨rfl, rfl⟩
  go_wp2_with fail
  go_ret
  exact ⟨rfl, HB.out⟩
set_option maxHeartbeats 4000000 in
set_option maxRecDepth 100000 in
theorem room_walk (m : Nat) (A : Option Addr) (n c : Nat) (w : World) (hT : Tab w) (h : 2 ≤ m ∧ m ≤ 65536) (hS : Script w A n) (hn : n ≤ 9223372036854775807) :
    Calls Tryd.prog 5 #[.int .i64 (m : Int), .slice A n c] w (YesMade true w) := by
  have HT := Lib.hid hT
  have HS := Lib.hid hS
  clear hT hS
  go_enter Tryd.func5, Tryd.ntmps5
  go_wp2_with fail
  refine (awake_any _ HT.out).mono ?_
  rintro e w1 ⟨rfl, hb⟩
  have HB := Lib.hid hb
  clear hb
  go_wp2_with fail
  refine (g_New m h.1 h.2 _).mono ?_
  rintro e w2 ⟨q, rfl, h2, hb2⟩
  have HM : Hid (InMidst q m w w2) := Lib.hid ⟨[], h2.mono fun b hb => Nat.le_trans HB.out.size hb, HB.out.trans (hb2.mono HB.out.size)⟩
  clear h2 hb2 HB
  go_wp2_with fail
  go_loopw [6] (fun vi wr => ∃ i : Nat, i ≤ n ∧ i ≤ 400 ∧ vi = .int .i64 i ∧ Hid (InMidst q m w wr)) (fun vi _ => n - (intOf vi).toNat)
  case atStart => exact ⟨0, by omega, by omega, by go_num, HM⟩
  case round =>
    obtain ⟨i, hin, hi4, rfl, HMI⟩ := hrel
    clear HM
    by_cases hi : i < n ∧ i < 400
    · have g2 : decide ((i : Int) < (n : Int)) = true := by rw [decide_eq_true_iff]; omega
      have g3 : decide ((i : Int) < 400) = true := by rw [decide_eq_true_iff]; omega
      obtain ⟨hi1, hi2⟩ := hi
      obtain ⟨L, h1, hb⟩ := HMI.out
      obtain ⟨s, b, off, rfl, hbl, e0, e1, e2, e3, hsx, hsl, hsh⟩ := HS.out i hi1
      have k0 := (hb.cell (p := ⟨b, off + i * 4, none⟩) hbl).trans e0
      have k1 := (hb.cell (p := ⟨b, off + i * 4 + 1, none⟩) hbl).trans e1
      have k2 := (hb.cell (p := ⟨b, off + i * 4 + 2, none⟩) hbl).trans e2
      have hsz := hb.size
      have H1 := Lib.hid h1
      have HB1 := Lib.hid hb
      clear h1 hb e0 e1 e2 e3 HMI
      go_upto_if 33 with fail
      go_cut [] from 18 to 96 (fun wx => Hid (InMidst q m w wx))
      case first =>
        by_cases hk : s.k = 0
        · have B0 : (s.k == 0) = true := by simp [hk]
          clear hk
          have g4 : (0 : Int) ≤ (i : Int) := by omega
          have g5 : (i : Int) < (n : Int) := by omega
          have g6 : IntKind.i64.wrap (i : Int) = (i : Int) := by rw [IntKind.wrap_i64]; omega
          have hbr : b < wr.heap.size := by omega
          go_wp2_with fail
          go_region_held3 (fun W => W.cell? ⟨b, off + i * 4 + 1, none⟩ = some (.int .i64 s.a) ∧ W.cell? ⟨b, off + i * 4 + 2, none⟩ = some (.int .i64 s.b)) (go_keep) ((go_at_call 12; refine (g_Alloc q (From w.heap.size) m L _ ?_ s.a s.b).mono ?_; exact H1.out.drew; rintro e w4 ⟨rfl, hs4⟩; have H4 := Lib.hid (hs4.from hsz); clear hs4; have k3 := (H4.out.2.cell (p := ⟨b, off + i * 4 + 1, none⟩) hbl).trans k1; have k4 := (H4.out.2.cell (p := ⟨b, off + i * 4 + 2, none⟩) hbl).trans k2))
          clear g6
          go_wp2_with fail
          go_meet
          exact Lib.hid ⟨_, H4.out.1, HB1.out.drew.trans H4.out.2⟩
        · have B0 : (s.k == 0) = false := by simp [hk]
          clear hk
          have HTr : Hid (Tab wr) := Lib.hid (HT.out.below HB1.out HT.out.lt)
          go_wp2_with fail
          refine (g_Next q _ m L _ H1.out s.a HTr.out hsh).mono ?_
          rintro e w' ⟨rfl, rfl⟩
          generalize nextOb L s.a.toNat = z at *
          go_wp2_with fail
          refine (g_Free q _ m L _ H1.out (z : Int)).mono ?_
          rintro e w4 ⟨rfl, hs4⟩
          have H4 := Lib.hid (hs4.from hsz)
          clear hs4
          go_wp2_with fail
          go_meet
          exact Lib.hid ⟨_, H4.out.1, HB1.out.trans H4.out.2⟩
      case rest =>
        clear k0 k1 k2 H1 HB1 hsz
        obtain ⟨L1, h1, hb⟩ := hcut.out
        have HCS := Lib.hid (counts_start h1.lies)
        have hc0 := counts_le HCS.out
        have H1 := Lib.hid h1
        have HB1 := Lib.hid hb
        have HTr : Hid (Tab wc) := Lib.hid (HT.out.below hb HT.out.lt)
        clear h1 hb hcut
        have HNX := Lib.hid (g_Next q _ m L1 _ H1.out 0 HTr.out (by decide))
        rw [show (0 : Int).toNat = 0 from rfl] at HNX
        generalize nextOb L1 0 = a0 at *
        go_wp2_with fail
        refine HNX.out.mono ?_
        rintro e w' ⟨rfl, rfl⟩
        go_wp2_with fail
        go_loopw [7, 8] (fun vu va wq => ∃ used a : Nat, Hid (Counts L1 m used a) ∧ Hid (HAt wq q (From w.heap.size) m L1) ∧ Hid (Below w.heap.size w wq) ∧ vu = .int .i64 used ∧ va = .int .i64 a) (fun _ va _ => (65537 - (intOf va).toNat) % 65537)
        case atStart => exact ⟨0, a0, HCS, H1, HB1, rfl, rfl⟩
        case round =>
          obtain ⟨used, a, HC, H2, HB2, rfl, rfl⟩ := hrel
          clear HCS H1 HB1 HNX HTr
          have hcl := counts_le HC.out
          have hsz := HB2.out.size
          have g7 : (0 : Int) ≤ (i : Int) := by omega
          by_cases hm : i % 20 = 0
          · have B2 : ((i : Int) % 20 == 0) = true := by rw [beq_iff_eq]; omega
            by_cases ha : a = 0
            · have B1 : ((a : Int) != 0) = false := by rw [ha]; rfl
              rw [ha] at HC
              have hrm := counts_end HC.out
              have hlr := long_le_room m L1
              have HR := Lib.hid (g_Room q _ m L1 _ H2.out)
              have HRO := Lib.hid fun w3 (h3 : HAt w3 q (From w.heap.size) m L1) => g_Room q _ m L1 w3 h3
              have HLO := Lib.hid fun w3 (h3 : HAt w3 q (From w.heap.size) m L1) => g_Longest q _ m L1 w3 h3
              generalize roomOf m L1 = rm at *
              generalize longOf m L1 = lg at *
              have B3 : ((used : Int) + (rm : Int) != (m : Int) - 1) = false := by
                rw [show (m : Int) - 1 = (used : Int) + (rm : Int) by omega]; simp
              have g8 : decide ((rm : Int) < (lg : Int)) = false := by rw [decide_eq_false_iff_not]; omega
              clear ha hm
              go_wp2_with fail
              refine HR.out.mono ?_
              rintro e w3 ⟨rfl, hb3⟩
              have H3 := Lib.hid (H2.out.below hb3)
              have HB3 := Lib.hid (HB2.out.trans (hb3.mono hsz))
              have hz3 : w.heap.size ≤ w3.heap.size := Nat.le_trans hsz hb3.size
              clear hb3
              go_wp2_with fail
              refine (HLO.out _ H3.out).mono ?_
              rintro e w4 ⟨rfl, hb4⟩
              have H4 := Lib.hid (H3.out.below hb4)
              have HB4 := Lib.hid (HB3.out.trans (hb4.mono hz3))
              have hz4 : w.heap.size ≤ w4.heap.size := Nat.le_trans hz3 hb4.size
              clear hb4
              go_wp2_with fail
              refine (HRO.out _ H4.out).mono ?_
              rintro e w5 ⟨rfl, hb5⟩
              have H5 := Lib.hid (H4.out.below hb5)
              have HB5 := Lib.hid (HB4.out.trans (hb5.mono hz4))
              clear hb5
              go_wp2_with fail
              go_roundw
              case rel => exact ⟨i + 1, by omega, by omega, by go_num, Lib.hid ⟨_, H5.out, HB5.out⟩⟩
              case measure => simp [intOf]; omega
            · obtain ⟨x, f1, f2, f3, f4, f5⟩ := counts_step HC.out ha
              have B1 : ((a : Int) != 0) = true := by rw [bne_iff_ne]; omega
              have HT2 := Lib.hid (HT.out.below HB2.out HT.out.lt)
              have HN := Lib.hid f3
              have hNX := g_Next q _ m L1 _ H2.out ((a : Int) + 1) HT2.out (by omega)
              rw [show ((a : Int) + 1).toNat = a + 1 by omega] at hNX
              have HNX := Lib.hid hNX
              have hSI := g_Size q _ m L1 _ H2.out (a : Int)
              rw [size_found f1] at hSI
              have HSI := Lib.hid hSI
              clear f1 f3 hNX hSI
              generalize nextOb L1 (a + 1) = a2 at *
              generalize x.fs.length = nf at *
              go_wp2_with fail
              refine HSI.out.mono ?_
              rintro e w' ⟨rfl, rfl⟩
              go_wp2_with fail
              refine HNX.out.mono ?_
              rintro e w' ⟨rfl, rfl⟩
              go_wp2_with fail
              go_roundw
              case rel => exact ⟨used + nf + 1, a2, HN, H2, HB2, by go_num, rfl⟩
              case measure => simp [intOf]; omega
          · have B2 : ((i : Int) % 20 == 0) = false := by rw [beq_eq_false_iff_ne]; omega
            have hlr := long_le_room m L1
            have HRO := Lib.hid fun w3 (h3 : HAt w3 q (From w.heap.size) m L1) => g_Room q _ m L1 w3 h3
            have HLO := Lib.hid fun w3 (h3 : HAt w3 q (From w.heap.size) m L1) => g_Longest q _ m L1 w3 h3
            generalize roomOf m L1 = rm at *
            generalize longOf m L1 = lg at *
            have g8 : decide ((rm : Int) < (lg : Int)) = false := by rw [decide_eq_false_iff_not]; omega
            clear hm
            by_cases ha : a = 0
            · have B1 : ((a : Int) != 0) = false := by rw [ha]; rfl
              clear ha
              go_wp2_with fail
              refine (HLO.out _ H2.out).mono ?_
              rintro e w4 ⟨rfl, hb4⟩
              have H4 := Lib.hid (H2.out.below hb4)
              have HB4 := Lib.hid (HB2.out.trans (hb4.mono hsz))
              have hz4 : w.heap.size ≤ w4.heap.size := Nat.le_trans hsz hb4.size
              clear hb4
              go_wp2_with fail
              refine (HRO.out _ H4.out).mono ?_
              rintro e w5 ⟨rfl, hb5⟩
              have H5 := Lib.hid (H4.out.below hb5)
              have HB5 := Lib.hid (HB4.out.trans (hb5.mono hz4))
              clear hb5
              go_wp2_with fail
              go_roundw
              case rel => exact ⟨i + 1, by omega, by omega, by go_num, Lib.hid ⟨_, H5.out, HB5.out⟩⟩
              case measure => simp [intOf]; omega
            · have B1 : ((a : Int) != 0) = true := by rw [bne_iff_ne]; omega
              clear ha
              go_wp2_with fail
              refine (HLO.out _ H2.out).mono ?_
              rintro e w4 ⟨rfl, hb4⟩
              have H4 := Lib.hid (H2.out.below hb4)
              have HB4 := Lib.hid (HB2.out.trans (hb4.mono hsz))
              have hz4 : w.heap.size ≤ w4.heap.size := Nat.le_trans hsz hb4.size
              clear hb4
              go_wp2_with fail
              refine (HRO.out _ H4.out).mono ?_
              rintro e w5 ⟨rfl, hb5⟩
              have H5 := Lib.hid (H4.out.below hb5)
              have HB5 := Lib.hid (HB4.out.trans (hb5.mono hz4))
              clear hb5
              go_wp2_with fail
              go_roundw
              case rel => exact ⟨i + 1, by omega, by omega, by go_num, Lib.hid ⟨_, H5.out, HB5.out⟩⟩
              case measure => simp [intOf]; omega
    · obtain ⟨L, h1, hb⟩ := HMI.out
      have hsz := hb.size
      have H1 := Lib.hid h1
      have HB1 := Lib.hid hb
      have HTr : Hid (Tab wr) := Lib.hid (HT.out.below hb HT.out.lt)
      clear h1 hb HMI
      have hcase : n ≤ i ∨ (i < n ∧ 400 ≤ i) := by omega
      rcases hcase with hc | ⟨hc, hc4⟩
      · have g2 : decide ((i : Int) < (n : Int)) = false := by rw [decide_eq_false_iff_not]; omega
        go_wp2_with fail
        refine (g_Next q _ m L _ H1.out 0 HTr.out (by decide)).mono ?_
        rw [show (0 : Int).toNat = 0 from rfl]
        rintro e w' ⟨rfl, rfl⟩
        go_wp2_with fail
        go_loopw [11] (fun va wq => ∃ L2 : List Ob, Hid (HAt wq q (From w.heap.size) m L2) ∧ Hid (Below w.heap.size w wq) ∧ va = .int .i64 (nextOb L2 0 : Nat)) (fun va _ => (65537 - (intOf va).toNat) % 65537)
        case atStart => exact ⟨L, H1, HB1, rfl⟩
        case round =>
          obtain ⟨L2, H2, HB2, rfl⟩ := hrel
          have hl2 := H2.out.lies
          have hz2 := HB2.out.size
          by_cases h0 : nextOb L2 0 = 0
          · obtain rfl := first_none hl2 h0
            have B1 : (((nextOb [] 0 : Nat) : Int) != 0) = false := rfl
            have B2 : (((m - 1 : Nat) : Int) == (m : Int) - 1) = true := by rw [beq_iff_eq]; omega
            clear hl2 h0
            go_wp2_with fail
            have hr := g_Room q _ m [] _ H2.out
            rw [room_nil] at hr
            refine hr.mono ?_
            rintro e w5 ⟨rfl, hb5⟩
            have H5 := Lib.hid (H2.out.below hb5)
            have HB5 := Lib.hid (HB2.out.trans (hb5.mono hz2))
            have hz5 : w.heap.size ≤ w5.heap.size := Nat.le_trans hz2 hb5.size
            clear hb5 hr
            go_wp2_with fail
            have hr := g_Longest q _ m [] _ H5.out
            rw [long_nil] at hr
            refine hr.mono ?_
            rintro e w6 ⟨rfl, hb6⟩
            have HB6 := Lib.hid (HB5.out.trans (hb6.mono hz5))
            clear hb6 hr
            go_wp2_with fail
            go_ret
            exact ⟨rfl, HB6.out⟩
          · obtain ⟨L3, f1, f2, f3, f4⟩ := first_step hl2 h0
            have B1 : (((nextOb L2 0 : Nat) : Int) != 0) = true := by rw [bne_iff_ne]; omega
            have HF := Lib.hid (b_Free q _ m L2 _ H2.out hz2 _ 0 L3 f1)
            clear hl2 f1
            generalize nextOb L2 0 = a at *
            go_wp2_with fail
            refine HF.out.mono ?_
            rintro e w6 ⟨rfl, h6, hb6⟩
            have H6 := Lib.hid h6
            have HB6 := Lib.hid (HB2.out.trans hb6)
            have HT6 : Hid (Tab w6) := Lib.hid (HT.out.below HB6.out HT.out.lt)
            clear h6 hb6
            go_wp2_with fail
            refine (g_Next q _ m L3 _ H6.out 0 HT6.out (by decide)).mono ?_
            rw [show (0 : Int).toNat = 0 from rfl]
            rintro e w' ⟨rfl, rfl⟩
            go_wp2_with fail
            go_roundw
            case rel => exact ⟨L3, H6, HB6, rfl⟩
            case measure => simp [intOf]; omega
      · have g2 : decide ((i : Int) < (n : Int)) = true := by rw [decide_eq_true_iff]; omega
        have g3 : decide ((i : Int) < 400) = false := by rw [decide_eq_false_iff_not]; omega
        go_wp2_with fail
        refine (g_Next q _ m L _ H1.out 0 HTr.out (by decide)).mono ?_
        rw [show (0 : Int).toNat = 0 from rfl]
        rintro e w' ⟨rfl, rfl⟩
        go_wp2_with fail
        go_loopw [11] (fun va wq => ∃ L2 : List Ob, Hid (HAt wq q (From w.heap.size) m L2) ∧ Hid (Below w.heap.size w wq) ∧ va = .int .i64 (nextOb L2 0 : Nat)) (fun va _ => (65537 - (intOf va).toNat) % 65537)
        case atStart => exact ⟨L, H1, HB1, rfl⟩
        case round =>
          obtain ⟨L2, H2, HB2, rfl⟩ := hrel
          have hl2 := H2.out.lies
          have hz2 := HB2.out.size
          by_cases h0 : nextOb L2 0 = 0
          · obtain rfl := first_none hl2 h0
            have B1 : (((nextOb [] 0 : Nat) : Int) != 0) = false := rfl
            have B2 : (((m - 1 : Nat) : Int) == (m : Int) - 1) = true := by rw [beq_iff_eq]; omega
            clear hl2 h0
            go_wp2_with fail
            have hr := g_Room q _ m [] _ H2.out
            rw [room_nil] at hr
            refine hr.mono ?_
            rintro e w5 ⟨rfl, hb5⟩
            have H5 := Lib.hid (H2.out.below hb5)
            have HB5 := Lib.hid (HB2.out.trans (hb5.mono hz2))
            have hz5 : w.heap.size ≤ w5.heap.size := Nat.le_trans hz2 hb5.size
            clear hb5 hr
            go_wp2_with fail
            have hr := g_Longest q _ m [] _ H5.out
            rw [long_nil] at hr
            refine hr.mono ?_
            rintro e w6 ⟨rfl, hb6⟩
            have HB6 := Lib.hid (HB5.out.trans (hb6.mono hz5))
            clear hb6 hr
            go_wp2_with fail
            go_ret
            exact ⟨rfl, HB6.out⟩
          · obtain ⟨L3, f1, f2, f3, f4⟩ := first_step hl2 h0
            have B1 : (((nextOb L2 0 : Nat) : Int) != 0) = true := by rw [bne_iff_ne]; omega
            have HF := Lib.hid (b_Free q _ m L2 _ H2.out hz2 _ 0 L3 f1)
            clear hl2 f1
            generalize nextOb L2 0 = a at *
            go_wp2_with fail
            refine HF.out.mono ?_
            rintro e w6 ⟨rfl, h6, hb6⟩
            have H6 := Lib.hid h6
            have HB6 := Lib.hid (HB2.out.trans hb6)
            have HT6 : Hid (Tab w6) := Lib.hid (HT.out.below HB6.out HT.out.lt)
            clear h6 hb6
            go_wp2_with fail
            refine (g_Next q _ m L3 _ H6.out 0 HT6.out (by decide)).mono ?_
            rw [show (0 : Int).toNat = 0 from rfl]
            rintro e w' ⟨rfl, rfl⟩
            go_wp2_with fail
            go_roundw
            case rel => exact ⟨L3, H6, HB6, rfl⟩
            case measure => simp [intOf]; omega
theorem law_Room (words : Int) (A : Option Addr) (n c : Nat) (w : World) (hT : Tab w) (hw : -9223372036854775808 ≤ words ∧ words ≤ 9223372036854775807) (hS : Script w A n) (hn : n ≤ 9223372036854775807) :
    Calls Tryd.prog 5 #[.int .i64 words, .slice A n c] w (YesMade true w) := by
  by_cases h1 : 2 ≤ words ∧ words ≤ 65536
  · have h3 := room_walk words.toNat A n c w hT (by omega) hS hn
    rw [Int.toNat_of_nonneg (by omega)] at h3
    exact h3
  · exact room_none words A n c w hT (by omega)
end Go.Proofs.YtmodogojpmepiaaDoor
