/-
  The walk of the law GcSteps: whatever the input, it returns true and leaves what was there as it was. Condition: the table of math/bits holds what its initialiser lays.
-/
import Derived.Test.YtbmkjlpjgkfjcaaDoorGAwake
namespace Go.Proofs.YtbmkjlpjgkfjcaaDoor
open Go.RowKit
theorem left_begin {words : Nat} (s : GS) (xs : List Nat) : (s.begin xs).2.left words ≤ 2 * words + 1 := left_le _
/-- The collector over a heap that lies behind the law's start. -/
theorem new_mid {q r m : Nat} {w wr : World} (h : Mid2 q r m w wr) (hm : m ≤ 65536) : ∃ L, Calls Tryd.prog 26 #[.pointer (some ⟨q, 0, none⟩)] wr (VNew (fun b => b < w.heap.size) q m L wr) := by
  obtain ⟨L, ⟨S, T, h1, h2, h3, h4, h5, h6, h7⟩, hb⟩ := h
  exact ⟨L, v_New _ q m S L wr h1 hm h4 h7⟩
theorem step_idle {s : GS} (h : s.ph = 0) : s.step = (false, s) := by unfold GS.step; rw [if_neg (by omega), if_neg (by omega)]
set_option maxHeartbeats 1000000 in
theorem steps_great (words : Int) (A1 A2 A3 : Option Addr) (n1 c1 n2 c2 n3 c3 : Nat) (w : World) (hT : Tab w) (h : 2048 < words ∨ 1000 < n2) :
    Calls Tryd.prog 8 #[.int .i64 words, .slice A1 n1 c1, .slice A2 n2 c2, .slice A3 n3 c3] w (YesMade true w) := by
  have HT := Lib.hid hT
  clear hT
  have HG : Hid (decide (2048 < words) = true ∨ (decide (2048 < words) = false ∧ decide (1000 < n2) = true ∧ decide (1000 < (n2 : Int)) = true)) := by
    refine Lib.hid ?_
    by_cases h1 : 2048 < words
    · exact .inl (decide_eq_true h1)
    · exact .inr ⟨decide_eq_false h1, decide_eq_true (by omega), decide_eq_true (by omega)⟩
  clear h
  rcases HG.out with g1 | ⟨g1, g2, g3⟩
  all_goals
    clear HG
    go_enter Tryd.func8, Tryd.ntmps8
    go_wp2_with fail
    refine (awake3_any _ HT.out).mono ?_
    rintro e w1 ⟨rfl, hb⟩
    have HB := Lib.hid hb
    clear hb
    go_wp2_with fail
    go_ret
    exact ⟨rfl, HB.out⟩
theorem steps_nil (words : Int) (A1 A2 A3 : Option Addr) (n1 c1 n2 c2 n3 c3 : Nat) (w : World) (hT : Tab w) (h : words < 2) (h2 : n2 ≤ 1000) :
    Calls Tryd.prog 8 #[.int .i64 words, .slice A1 n1 c1, .slice A2 n2 c2, .slice A3 n3 c3] w (YesMade true w) := by
  have HT := Lib.hid hT
  clear hT
  have g1 : decide (2048 < words) = false := decide_eq_false (by omega)
  have g2 : decide (1000 < n2) = false := decide_eq_false (by omega)
  have g3 : decide (1000 < (n2 : Int)) = false := decide_eq_false (by omega)
  go_enter Tryd.func8, Tryd.ntmps8
  go_wp2_with fail
  refine (awake3_any _ HT.out).mono ?_
  rintro e w1 ⟨rfl, hb⟩
  have HB := Lib.hid hb
  clear hb
  go_wp2_with fail
  refine (both_nil words A1 n1 c1 _ (.inl h)).mono ?_
  rintro e w' ⟨rfl, rfl⟩
  go_wp2_with fail
  go_ret
  exact ⟨rfl, HB.out⟩
theorem Script3.below {w w' : World} {A : Option Addr} {n : Nat} (h : Script3 w (fun b => b < w.heap.size) A n) (hb : Below w.heap.size w w') : Script3 w' (fun b => b < w'.heap.size) A n := fun i hi => by
  obtain ⟨s, b, off, h1, h2, h3, e0, e1, e2, e3, e4, h4, h5, h6⟩ := h i hi
  have hz := hb.size
  refine ⟨s, b, off, h1, by omega, by omega, ?_, ?_, ?_, ?_, ?_, h4, ?_, h6⟩
  · rw [hb.cell (p := ⟨b, _, none⟩) h2]; exact e0
  · rw [hb.cell (p := ⟨b, _, none⟩) h2]; exact e1
  · rw [hb.cell (p := ⟨b, _, none⟩) h2]; exact e2
  · rw [hb.cell (p := ⟨b, _, none⟩) h2]; exact e3
  · rw [hb.cell (p := ⟨b, _, none⟩) h2]; exact e4
  · have h7 := h5.keep hz fun b hl _ => hb.block b hl
    exact ⟨h7.1, h7.2.1, fun i hi => by
      obtain ⟨b, off, j1, j2, j3, j4⟩ := h7.2.2 i hi
      exact ⟨b, off, j1, j2, j2, j4⟩⟩
theorem mid_back {q r m : Nat} {w w1 wr : World} (hb : Below w.heap.size w w1) (h : Mid2 q r m w1 wr) : Mid2 q r m w wr := by
  obtain ⟨L, h1, h2⟩ := h
  have hz := hb.size
  exact ⟨L, h1.less fun b hb => by have : b < w.heap.size := hb; show b < w1.heap.size; omega, hb.trans (h2.mono hz)⟩
/-- In the midst of a law on the collector. -/
def MidG (g q m : Nat) (w : World) (s : GS) (wr : World) : Prop := GIn (fun b => b < w.heap.size) wr g q m s ∧ Below w.heap.size w wr
theorem MidG.go {g q m : Nat} {w wr w' : World} {s t : GS} (h : MidG g q m w s wr) (hs : GGo (fun b => b < w.heap.size) g q m t wr w') : MidG g q m w t w' := ⟨hs.1, h.2.trans (hs.2.below (fun _ hb => hb) h.2.size)⟩
theorem MidG.goDrew {g q m : Nat} {w wr w' : World} {s t : GS} (h : MidG g q m w s wr) (hs : GGo (fun b => b < w.heap.size) g q m t wr.drew w') : MidG g q m w t w' := ⟨hs.1, h.2.drew.trans (hs.2.below (fun _ hb => hb) h.2.size)⟩
theorem MidG.tab {g q m : Nat} {w wr : World} {s : GS} (h : MidG g q m w s wr) (hT : Tab w) : Tab wr := hT.below h.2 hT.lt
set_option maxHeartbeats 4000000 in
set_option maxRecDepth 100000 in
theorem steps_walk (m : Nat) (A1 A2 A3 : Option Addr) (n1 c1 n2 c2 n3 c3 : Nat) (rs : List Nat) (w : World) (hT : Tab w) (h : 2 ≤ m ∧ m ≤ 2048) (h2 : n2 ≤ 1000)
    (hS1 : Script3 w (fun b => b < w.heap.size) A1 n1) (hn1 : n1 ≤ 9223372036854775807) (hR : WordsAt w (fun b => b < w.heap.size) A2 n2 rs) (hS3 : Script3 w (fun b => b < w.heap.size) A3 n3) (hn3 : n3 ≤ 9223372036854775807) :
    Calls Tryd.prog 8 #[.int .i64 (m : Int), .slice A1 n1 c1, .slice A2 n2 c2, .slice A3 n3 c3] w (YesMade true w) := by
  have HT := Lib.hid hT
  have HS1 := Lib.hid hS1
  have HS3 := Lib.hid hS3
  have HR := Lib.hid hR
  have g1 : decide (2048 < (m : Int)) = false := decide_eq_false (by omega)
  have g2 : decide (1000 < n2) = false := decide_eq_false (by omega)
  have g3 : decide (1000 < (n2 : Int)) = false := decide_eq_false (by omega)
  clear hT hS1 hS3 hR
  go_enter Tryd.func8, Tryd.ntmps8
  go_wp2_with fail
  refine (awake3_any _ HT.out).mono ?_
  rintro e w1 ⟨rfl, hb⟩
  have HB := Lib.hid hb
  clear hb
  go_wp2_with fail
  refine (both_any m A1 n1 c1 w1 ⟨h.1, by omega⟩ (HS1.out.below HB.out) hn1).mono ?_
  rintro e w2 ⟨q, r, rfl, hm2⟩
  have HM := Lib.hid (mid_back HB.out hm2)
  clear hm2 HB
  obtain ⟨L, hnew⟩ := new_mid HM.out (by omega)
  have HNW := Lib.hid hnew
  clear hnew
  go_wp2_with fail
  refine HNW.out.mono ?_
  rintro e w3 ⟨g, rfl, h3, hb3⟩
  have H3 : Hid (MidG g q m w ⟨L, 0, [], [], 0⟩ w3) := Lib.hid ⟨h3, HM.out.choose_spec.2.trans (hb3.mono HM.out.choose_spec.2.size)⟩
  clear h3 hb3 HNW HM
  have hbg := v_Begin _ g q m _ _ H3.out.1 A2 n2 c2 rs (HR.out.keep H3.out.2.size fun b _ hv => H3.out.2.block b hv) (by omega)
  go_wp2_with fail
  refine hbg.mono ?_
  clear hbg
  rintro e w4 ⟨rfl, h4⟩
  have H4 : Hid (∃ s, MidG g q m w s w4 ∧ 0 + s.left m ≤ 2 * m + 1) := Lib.hid ⟨_, H3.out.go h4, by rw [Nat.zero_add]; exact left_le _⟩
  clear h4 H3 HR
  go_wp2_with fail
  go_loopw [13, 12] (fun vi vn wr => ∃ i cnt : Nat, i ≤ n3 ∧ i ≤ 200 ∧ vi = .int .i64 i ∧ vn = .int .i64 cnt ∧ Hid (∃ s, MidG g q m w s wr ∧ cnt + s.left m ≤ 2 * m + 1) ∧ cnt ≤ 4097) (fun vi _ _ => n3 - (intOf vi).toNat)
  case atStart => exact ⟨0, 0, by omega, by omega, by go_num, by go_num, H4, by omega⟩
  case round =>
    obtain ⟨i, cnt, hin, hi4, rfl, rfl, HI, hcnt⟩ := hrel
    clear H4
    obtain ⟨s, hmg, hleft⟩ := HI.out
    have HMG := Lib.hid hmg
    have HLF := Lib.hid hleft
    clear hmg hleft HI
    have hcase : (i < n3 ∧ i < 200) ∨ n3 ≤ i ∨ (i < n3 ∧ 200 ≤ i) := by omega
    rcases hcase with ⟨hi1, hi2⟩ | hc
    · have g4 : decide ((i : Int) < (n3 : Int)) = true := decide_eq_true (by omega)
      have g5 : decide ((i : Int) < 200) = true := decide_eq_true (by omega)
      obtain ⟨st, b, off, rfl, hbl, _, e0, e1, e2, e3, e4, hsx, _⟩ := HS3.out i hi1
      have k0 := (HMG.out.2.cell (p := ⟨b, off + i * 5, none⟩) hbl).trans e0
      have k1 := (HMG.out.2.cell (p := ⟨b, off + i * 5 + 1, none⟩) hbl).trans e1
      have k2 := (HMG.out.2.cell (p := ⟨b, off + i * 5 + 2, none⟩) hbl).trans e2
      have k3 := (HMG.out.2.cell (p := ⟨b, off + i * 5 + 3, none⟩) hbl).trans e3
      have hbr : b < wr.heap.size := Nat.lt_of_lt_of_le hbl HMG.out.2.size
      have g6 : (0 : Int) ≤ (i : Int) := by omega
      have g7 : (i : Int) < (n3 : Int) := by omega
      clear e0 e1 e2 e3 e4
      by_cases hk : st.k = 0
      · have B0 : (st.k == 0) = true := by simp [hk]
        clear hk
        go_upto_region 19 with fail
        have g8 : IntKind.i64.wrap (i : Int) = (i : Int) := by rw [IntKind.wrap_i64]; omega
        go_region_held3 (fun W => W.cell? ⟨b, off + i * 5 + 1, none⟩ = some (.int .i64 st.a) ∧ W.cell? ⟨b, off + i * 5 + 2, none⟩ = some (.int .i64 st.b)) (go_keep) ((go_at_call 28; refine (v_Alloc (fun b => b < w.heap.size) g q m s _ ?_ st.a st.b).mono ?_; exact HMG.out.1.drew; rintro e w5 ⟨rfl, hs5⟩; have H5 := Lib.hid hs5; clear hs5; have j1 := (H5.out.2.cell (p := ⟨b, off + i * 5 + 1, none⟩) hbl hbr).trans k1; have j2 := (H5.out.2.cell (p := ⟨b, off + i * 5 + 2, none⟩) hbl hbr).trans k2))
        have HN : Hid (∃ s, MidG g q m w s w5 ∧ cnt + s.left m ≤ 2 * m + 1) := Lib.hid ⟨_, HMG.out.goDrew H5.out, Nat.le_trans (Nat.add_le_add_left (left_alloc (words := m) s st.a st.b) _) HLF.out⟩
        clear g8 H5
        go_wp2_with fail
        go_roundw
        case rel => exact ⟨i + 1, cnt, by omega, by omega, by go_num, rfl, HN, hcnt⟩
        case measure => simp [intOf]; omega
      · have B0 : (st.k == 0) = false := by simp [hk]
        by_cases hk1 : st.k = 1
        · have B1 : (st.k == 1) = true := by simp [hk1]
          clear hk hk1
          go_upto_region 21 with fail
          have g8 : IntKind.i64.wrap (i : Int) = (i : Int) := by rw [IntKind.wrap_i64]; omega
          go_region_held3 (fun W => W.cell? ⟨b, off + i * 5 + 1, none⟩ = some (.int .i64 st.a) ∧ W.cell? ⟨b, off + i * 5 + 2, none⟩ = some (.int .i64 st.b) ∧ W.cell? ⟨b, off + i * 5 + 3, none⟩ = some (.int .u64 (st.x : Int))) (go_keep) ((go_at_call 30; refine (v_Write (fun b => b < w.heap.size) g q m s _ ?_ st.a st.b st.x hsx).mono ?_; exact HMG.out.1.drew; rintro e w5 ⟨rfl, hs5⟩; have H5 := Lib.hid hs5; clear hs5; have j1 := (H5.out.2.cell (p := ⟨b, off + i * 5 + 1, none⟩) hbl hbr).trans k1; have j2 := (H5.out.2.cell (p := ⟨b, off + i * 5 + 2, none⟩) hbl hbr).trans k2; have j3 := (H5.out.2.cell (p := ⟨b, off + i * 5 + 3, none⟩) hbl hbr).trans k3))
          have HN : Hid (∃ s, MidG g q m w s w5 ∧ cnt + s.left m ≤ 2 * m + 1) := Lib.hid ⟨_, HMG.out.goDrew H5.out, Nat.le_trans (Nat.add_le_add_left (left_write (words := m) s st.a st.b st.x) _) HLF.out⟩
          clear g8 H5
          go_wp2_with fail
          go_roundw
          case rel => exact ⟨i + 1, cnt, by omega, by omega, by go_num, rfl, HN, hcnt⟩
          case measure => simp [intOf]; omega
        · have B1 : (st.k == 1) = false := by simp [hk1]
          clear hk hk1
          have HPH := Lib.hid (v_Phase _ g q m s _ HMG.out.1)
          by_cases hp : s.ph = 0
          · rw [hp] at HPH
            have HN : Hid (∃ s, MidG g q m w s wr ∧ cnt + s.left m ≤ 2 * m + 1) := Lib.hid ⟨s, HMG.out, HLF.out⟩
            clear hp
            go_wp2_with fail
            refine HPH.out.mono ?_
            rintro e w' ⟨rfl, rfl⟩
            go_wp2_with fail
            go_roundw
            case rel => exact ⟨i + 1, cnt, by omega, by omega, by go_num, rfl, HN, hcnt⟩
            case measure => simp [intOf]; omega
          · have B2 : ((s.ph : Int) != 0) = true := by rw [bne_iff_ne]; omega
            have HST := Lib.hid (v_Step _ g q m s _ HMG.out.1 (HMG.out.tab HT.out))
            have hl1 := left_step HMG.out.1.inv hp
            have hl2 := HLF.out
            have hcnt2 : cnt + 1 ≤ 4097 := by omega
            have HLF2 : Hid (cnt + 1 + s.step.2.left m ≤ 2 * m + 1) := Lib.hid (by omega)
            clear hp hl1 hl2
            generalize s.ph = p at *
            go_wp2_with fail
            refine HPH.out.mono ?_
            rintro e w' ⟨rfl, rfl⟩
            go_wp2_with fail
            refine HST.out.mono ?_
            rintro e w5 ⟨rfl, hs5⟩
            have HN : Hid (∃ s, MidG g q m w s w5 ∧ cnt + 1 + s.left m ≤ 2 * m + 1) := Lib.hid ⟨_, HMG.out.go hs5, HLF2.out⟩
            clear hs5
            go_wp2_with fail
            go_roundw
            case rel => exact ⟨i + 1, cnt + 1, by omega, by omega, by go_num, by go_num, HN, hcnt2⟩
            case measure => simp [intOf]; omega
    · have HFI := Lib.hid (v_Finish _ g q m s _ HMG.out.1 (HMG.out.tab HT.out) HT.out.lt)
      have HEND : Hid (∀ K w5, EndsAt s K → GGo (fun b => b < w.heap.size) g q m (s.run K) wr w5 → ((cnt : Int) + (K : Int) ≤ 2 * (m : Int) + 2) ∧ K ≤ 4097 ∧ Below w.heap.size w w5 ∧ Calls Tryd.prog 40 #[.pointer (some ⟨g, 0, none⟩)] w5 (OneSame 0 w5) ∧
          Calls Tryd.prog 41 #[.pointer (some ⟨g, 0, none⟩)] w5 (OneSame 0 w5) ∧ Calls Tryd.prog 34 #[.pointer (some ⟨g, 0, none⟩)] w5 (VOne (fun b => b < w.heap.size) g q m (.bool false) (s.run K) w5)) := Lib.hid (by
        intro K w5 hK h5
        have hi := HMG.out.1.inv
        have h6 := run_left hi K hK.2
        have h7 := HLF.out
        have hm5 := HMG.out.go h5
        have e1 := v_Phase _ g q m _ _ hm5.1
        have e2 := v_Grey _ g q m _ _ hm5.1
        have e3 := v_Step _ g q m _ _ hm5.1 (hm5.tab HT.out)
        rw [hK.1] at e1
        rw [hm5.1.inv.gnil (by rw [hK.1]; decide)] at e2
        rw [step_idle hK.1] at e3
        exact ⟨by omega, by omega, hm5.2, e1, e2, e3⟩)
      rcases hc with hc | ⟨hc, hc4⟩
      · have g4 : decide ((i : Int) < (n3 : Int)) = false := decide_eq_false (by omega)
        go_wp2_with fail
        refine HFI.out.mono ?_
        rintro e w5 ⟨K, rfl, hK, h5⟩
        obtain ⟨f1, f2, f3, f4, f5, f6⟩ := HEND.out K w5 hK h5
        have HB5 := Lib.hid f3
        have HP5 := Lib.hid f4
        have HG5 := Lib.hid f5
        have HS5 := Lib.hid f6
        have B1 : decide ((cnt : Int) + (K : Int) ≤ 2 * (m : Int) + 2) = true := decide_eq_true f1
        clear hK h5 f1 f3 f4 f5 f6
        go_wp2_with fail
        refine HP5.out.mono ?_
        rintro e w' ⟨rfl, rfl⟩
        go_wp2_with fail
        refine HG5.out.mono ?_
        rintro e w' ⟨rfl, rfl⟩
        go_wp2_with fail
        refine HS5.out.mono ?_
        rintro e w6 ⟨rfl, h6⟩
        have HB6 : Hid (Below w.heap.size w w6) := Lib.hid (HB5.out.trans (h6.2.below (fun _ hb => hb) HB5.out.size))
        clear h6
        go_wp2_with fail
        go_ret
        exact ⟨rfl, HB6.out⟩
      · have g4 : decide ((i : Int) < (n3 : Int)) = true := decide_eq_true (by omega)
        have g5 : decide ((i : Int) < 200) = false := decide_eq_false (by omega)
        go_wp2_with fail
        refine HFI.out.mono ?_
        rintro e w5 ⟨K, rfl, hK, h5⟩
        obtain ⟨f1, f2, f3, f4, f5, f6⟩ := HEND.out K w5 hK h5
        have HB5 := Lib.hid f3
        have HP5 := Lib.hid f4
        have HG5 := Lib.hid f5
        have HS5 := Lib.hid f6
        have B1 : decide ((cnt : Int) + (K : Int) ≤ 2 * (m : Int) + 2) = true := decide_eq_true f1
        clear hK h5 f1 f3 f4 f5 f6
        go_wp2_with fail
        refine HP5.out.mono ?_
        rintro e w' ⟨rfl, rfl⟩
        go_wp2_with fail
        refine HG5.out.mono ?_
        rintro e w' ⟨rfl, rfl⟩
        go_wp2_with fail
        refine HS5.out.mono ?_
        rintro e w6 ⟨rfl, h6⟩
        have HB6 : Hid (Below w.heap.size w w6) := Lib.hid (HB5.out.trans (h6.2.below (fun _ hb => hb) HB5.out.size))
        clear h6
        go_wp2_with fail
        go_ret
        exact ⟨rfl, HB6.out⟩
theorem law_Steps (words : Int) (A1 : Option Addr) (n1 c1 : Nat) (A2 : Option Addr) (n2 c2 : Nat) (A3 : Option Addr) (n3 c3 : Nat) (rs : List Nat) (w : World) (hT : Tab w) (_hw : -9223372036854775808 ≤ words ∧ words ≤ 9223372036854775807)
    (hS1 : Script3 w (fun b => b < w.heap.size) A1 n1) (hn1 : n1 ≤ 9223372036854775807) (hR : WordsAt w (fun b => b < w.heap.size) A2 n2 rs) (_hn2 : n2 ≤ 9223372036854775807) (hS3 : Script3 w (fun b => b < w.heap.size) A3 n3) (hn3 : n3 ≤ 9223372036854775807) :
    Calls Tryd.prog 8 #[.int .i64 words, .slice A1 n1 c1, .slice A2 n2 c2, .slice A3 n3 c3] w (YesMade true w) := by
  by_cases h1 : 2048 < words ∨ 1000 < n2
  · exact steps_great words A1 A2 A3 n1 c1 n2 c2 n3 c3 w hT h1
  · by_cases h2 : words < 2
    · exact steps_nil words A1 A2 A3 n1 c1 n2 c2 n3 c3 w hT h2 (by omega)
    · have h3 := steps_walk words.toNat A1 A2 A3 n1 c1 n2 c2 n3 c3 rs w hT (by omega) (by omega) hS1 hn1 hR hS3 hn3
      rw [Int.toNat_of_nonneg (by omega)] at h3
      exact h3
end Go.Proofs.YtbmkjlpjgkfjcaaDoor
