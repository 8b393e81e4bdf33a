/-
  The walk of the law HeapFits: whatever the input, it returns true and leaves what was there as it was. Condition: the table of math/bits holds what its initialiser lays.
-/
import Derived.Test.YtmodogojpmepiaaDoorHFits
namespace Go.Proofs.YtmodogojpmepiaaDoor
open Go.RowKit
theorem fits_nil (words : Int) (A : Option Addr) (n c : Nat) (size : Int) (w : World) (hT : Tab w) (h : words < 2 ∨ 65536 < words) :
    Calls Tryd.prog 6 #[.int .i64 words, .slice A n c, .int .i64 size] w (YesMade true w) := by
  have HT := Lib.hid hT
  clear hT
  go_enter Tryd.func6, Tryd.ntmps6
  go_wp2_with fail
  refine (awake_any _ HT.out).mono ?_
  rintro e w1 ⟨rfl, hb⟩
  have HB := Lib.hid hb
  clear hb
  go_wp2_with fail
  refine (new_nil words _ h).mono ?_
  rintro e w' ⟨rfl, rfl⟩
  go_wp2_with fail
  go_ret
  exact ⟨rfl, HB.out⟩
theorem fits_size (words : Int) (A : Option Addr) (n c : Nat) (size : Int) (w : World) (hT : Tab w) (h : 2 ≤ words ∧ words ≤ 65536) (hs : size < 0 ∨ 4096 < size) :
    Calls Tryd.prog 6 #[.int .i64 words, .slice A n c, .int .i64 size] w (YesMade true w) := by
  have HT := Lib.hid hT
  clear hT
  by_cases h0 : size < 0
  · have g0 : decide (size < 0) = true := by rw [decide_eq_true_iff]; omega
    go_enter Tryd.func6, Tryd.ntmps6
    go_wp2_with fail
    refine (awake_any _ HT.out).mono ?_
    rintro e w1 ⟨rfl, hb⟩
    have HB := Lib.hid hb
    clear hb
    go_wp2_with fail
    refine (g_NewI words h.1 h.2 _).mono ?_
    rintro e w2 ⟨q, rfl, h2, hb2⟩
    have HB2 := Lib.hid (HB.out.trans (hb2.mono HB.out.size))
    clear h2 hb2
    go_wp2_with fail
    go_ret
    exact ⟨rfl, HB2.out⟩
  · have g0 : decide (size < 0) = false := by rw [decide_eq_false_iff_not]; omega
    have g1 : decide (4096 < size) = true := by rw [decide_eq_true_iff]; omega
    clear hs
    go_enter Tryd.func6, Tryd.ntmps6
    go_wp2_with fail
    refine (awake_any _ HT.out).mono ?_
    rintro e w1 ⟨rfl, hb⟩
    have HB := Lib.hid hb
    clear hb
    go_wp2_with fail
    refine (g_NewI words h.1 h.2 _).mono ?_
    rintro e w2 ⟨q, rfl, h2, hb2⟩
    have HB2 := Lib.hid (HB.out.trans (hb2.mono HB.out.size))
    clear h2 hb2
    go_wp2_with fail
    go_ret
    exact ⟨rfl, HB2.out⟩
/-- In the midst of a script: the heap holds some objects, and what was there when the law began stands. -/
def InMidst (q words : Nat) (w wr : World) : Prop := ∃ L, HAt wr q (From w.heap.size) words L ∧ Below w.heap.size w wr
set_option maxHeartbeats 4000000 in
set_option maxRecDepth 100000 in
theorem fits_any (words : Int) (A : Option Addr) (n c : Nat) (size : Nat) (w : World) (hT : Tab w) (h : 2 ≤ words ∧ words ≤ 65536) (hs : size ≤ 4096) (hS : Script w A n) (hn : n ≤ 9223372036854775807) :
    Calls Tryd.prog 6 #[.int .i64 words, .slice A n c, .int .i64 (size : Int)] w (YesMade true w) := by
  have HT := Lib.hid hT
  have HS := Lib.hid hS
  clear hT hS
  have g0 : decide ((size : Int) < 0) = false := by rw [decide_eq_false_iff_not]; omega
  have g1 : decide (4096 < (size : Int)) = false := by rw [decide_eq_false_iff_not]; omega
  have hwt : 2 ≤ words.toNat ∧ words.toNat ≤ 65536 := by omega
  go_enter Tryd.func6, Tryd.ntmps6
  go_wp2_with fail
  refine (awake_any _ HT.out).mono ?_
  rintro e w1 ⟨rfl, hb⟩
  have HB := Lib.hid hb
  clear hb
  go_wp2_with fail
  refine (g_NewI words h.1 h.2 _).mono ?_
  rintro e w2 ⟨q, rfl, h2, hb2⟩
  have HM : Hid (InMidst q words.toNat w w2) := Lib.hid ⟨[], h2.mono fun b hb => Nat.le_trans HB.out.size hb, HB.out.trans (hb2.mono HB.out.size)⟩
  clear h2 hb2 HB
  generalize words.toNat = m at *
  go_wp2_with fail
  go_loopw [8] (fun vi wr => ∃ i : Nat, i ≤ n ∧ i ≤ 400 ∧ vi = .int .i64 i ∧ Hid (InMidst q m w wr)) (fun vi _ => n - (intOf vi).toNat)
  case atStart => exact ⟨0, by omega, by omega, by go_num, HM⟩
  case round =>
    obtain ⟨i, hin, hi4, rfl, HMI⟩ := hrel
    clear HM
    by_cases hi : i < n ∧ i < 400
    · have g2 : decide ((i : Int) < (n : Int)) = true := by rw [decide_eq_true_iff]; omega
      have g3 : decide ((i : Int) < 400) = true := by rw [decide_eq_true_iff]; omega
      obtain ⟨hi1, hi2⟩ := hi
      obtain ⟨L, h1, hb⟩ := HMI.out
      obtain ⟨s, b, off, rfl, hbl, e0, e1, e2, e3, hsx, hsl, hsh⟩ := HS.out i hi1
      have k0 := (hb.cell (p := ⟨b, off + i * 4, none⟩) hbl).trans e0
      have k1 := (hb.cell (p := ⟨b, off + i * 4 + 1, none⟩) hbl).trans e1
      have k2 := (hb.cell (p := ⟨b, off + i * 4 + 2, none⟩) hbl).trans e2
      have hsz := hb.size
      have H1 := Lib.hid h1
      have HB1 := Lib.hid hb
      clear h1 hb e0 e1 e2 e3 HMI
      by_cases hk : s.k = 0
      · have B0 : (s.k == 0) = true := by simp [hk]
        clear hk
        have g4 : (0 : Int) ≤ (i : Int) := by omega
        have g5 : (i : Int) < (n : Int) := by omega
        have g6 : IntKind.i64.wrap (i : Int) = (i : Int) := by rw [IntKind.wrap_i64]; omega
        have hbr : b < wr.heap.size := by omega
        go_wp2_with fail
        go_region_held3 (fun W => W.cell? ⟨b, off + i * 4 + 1, none⟩ = some (.int .i64 s.a) ∧ W.cell? ⟨b, off + i * 4 + 2, none⟩ = some (.int .i64 s.b)) (go_keep) ((go_at_call 12; refine (g_Alloc q (From w.heap.size) m L _ ?_ s.a s.b).mono ?_; exact H1.out.drew; rintro e w4 ⟨rfl, hs4⟩; have H4 := Lib.hid (hs4.from hsz); clear hs4; have k3 := (H4.out.2.cell (p := ⟨b, off + i * 4 + 1, none⟩) hbl).trans k1; have k4 := (H4.out.2.cell (p := ⟨b, off + i * 4 + 2, none⟩) hbl).trans k2))
        clear g6
        go_wp2_with fail
        go_roundw
        case rel => exact ⟨i + 1, by omega, by omega, by go_num, Lib.hid ⟨_, H4.out.1, HB1.out.drew.trans H4.out.2⟩⟩
        case measure => simp [intOf]; omega
      · have B0 : (s.k == 0) = false := by simp [hk]
        clear hk
        have HTr : Hid (Tab wr) := Lib.hid (HT.out.below HB1.out HT.out.lt)
        go_wp2_with fail
        refine (g_Next q _ m L _ H1.out s.a HTr.out hsh).mono ?_
        rintro e w' ⟨rfl, rfl⟩
        generalize nextOb L s.a.toNat = z at *
        go_wp2_with fail
        refine (g_Free q _ m L _ H1.out (z : Int)).mono ?_
        rintro e w4 ⟨rfl, hs4⟩
        have H4 := Lib.hid (hs4.from hsz)
        clear hs4
        go_wp2_with fail
        go_roundw
        case rel => exact ⟨i + 1, by omega, by omega, by go_num, Lib.hid ⟨_, H4.out.1, HB1.out.trans H4.out.2⟩⟩
        case measure => simp [intOf]; omega
    · obtain ⟨L, h1, hb⟩ := HMI.out
      have hsz := hb.size
      have hlie := h1.lies
      have H1 := Lib.hid h1
      have HB1 := Lib.hid hb
      have HTr : Hid (Tab wr) := Lib.hid (HT.out.below hb HT.out.lt)
      have HLI := Lib.hid hlie
      clear h1 hb hlie HMI
      have hcase : n ≤ i ∨ (i < n ∧ 400 ≤ i) := by omega
      have hlen6 : hAlloc m L 6 (size : Int) = match allocAt m 6 size 1 L with | none => (0, 6, L) | some (a, L') => ((a : Int), 0, L') := by
        unfold hAlloc
        rw [if_neg (by decide), if_neg (by omega), Int.toNat_natCast]
        rfl
      have HA6 := Lib.hid hlen6
      clear hlen6
      cases ha : allocAt m 6 size 1 L with
      | none =>
        have hle : longOf m L ≤ size := (alloc_long m 6 size 1 L).1 ha
        have HA := Lib.hid ha
        clear ha
        rcases hcase with hc | ⟨hc, hc4⟩
        · have g2 : decide ((i : Int) < (n : Int)) = false := by rw [decide_eq_false_iff_not]; omega
          go_wp2_with fail
          refine (g_Longest q _ m L _ H1.out).mono ?_
          rintro e w5 ⟨rfl, hb5⟩
          have H5 := Lib.hid (H1.out.below hb5)
          have HB5 := Lib.hid (HB1.out.trans (hb5.mono hsz))
          have hz5 : w.heap.size ≤ w5.heap.size := Nat.le_trans hsz hb5.size
          clear hb5
          generalize longOf m L = lg at *
          go_wp2_with fail
          have hal := g_Alloc q _ m L _ H5.out 6 (size : Int)
          rw [HA6.out, HA.out] at hal
          refine hal.mono ?_
          rintro e w6 ⟨rfl, hs6⟩
          have H6 := Lib.hid (hs6.from hz5)
          clear hs6 hal
          go_wp2_with fail
          go_ret
          exact ⟨rfl, HB5.out.trans H6.out.2⟩
        · have g2 : decide ((i : Int) < (n : Int)) = true := by rw [decide_eq_true_iff]; omega
          have g3 : decide ((i : Int) < 400) = false := by rw [decide_eq_false_iff_not]; omega
          go_wp2_with fail
          refine (g_Longest q _ m L _ H1.out).mono ?_
          rintro e w5 ⟨rfl, hb5⟩
          have H5 := Lib.hid (H1.out.below hb5)
          have HB5 := Lib.hid (HB1.out.trans (hb5.mono hsz))
          have hz5 : w.heap.size ≤ w5.heap.size := Nat.le_trans hsz hb5.size
          clear hb5
          generalize longOf m L = lg at *
          go_wp2_with fail
          have hal := g_Alloc q _ m L _ H5.out 6 (size : Int)
          rw [HA6.out, HA.out] at hal
          refine hal.mono ?_
          rintro e w6 ⟨rfl, hs6⟩
          have H6 := Lib.hid (hs6.from hz5)
          clear hs6 hal
          go_wp2_with fail
          go_ret
          exact ⟨rfl, HB5.out.trans H6.out.2⟩
      | some r =>
        obtain ⟨a, L'⟩ := r
        have hgt : size < longOf m L := by
          refine Nat.lt_of_not_le (fun hle => ?_)
          have h7 := (alloc_long m 6 size 1 L).2 hle
          rw [ha] at h7
          cases h7
        have HK : Hid (Seeks L' m size a 1 (nextOb L' 0)) := Lib.hid (seeks_start HLI.out ha)
        have hom : nextOb L' 0 ≤ m := seeks_le HK.out
        have HA := Lib.hid ha
        clear ha
        rcases hcase with hc | ⟨hc, hc4⟩
        · have g2 : decide ((i : Int) < (n : Int)) = false := by rw [decide_eq_false_iff_not]; omega
          go_wp2_with fail
          refine (g_Longest q _ m L _ H1.out).mono ?_
          rintro e w5 ⟨rfl, hb5⟩
          have H5 := Lib.hid (H1.out.below hb5)
          have HB5 := Lib.hid (HB1.out.trans (hb5.mono hsz))
          have hz5 : w.heap.size ≤ w5.heap.size := Nat.le_trans hsz hb5.size
          have HT5 := Lib.hid (HTr.out.below hb5 HTr.out.lt)
          clear hb5
          generalize longOf m L = lg at *
          go_wp2_with fail
          have hal := g_Alloc q _ m L _ H5.out 6 (size : Int)
          rw [HA6.out, HA.out] at hal
          refine hal.mono ?_
          rintro e w6 ⟨rfl, hs6⟩
          have H6 := Lib.hid (hs6.from hz5)
          have HT6 : Hid (Tab w6) := Lib.hid (HT5.out.below H6.out.2 HT.out.lt)
          clear hs6 hal
          go_wp2_with fail
          refine (g_Next q _ m L' _ H6.out.1 0 HT6.out (by decide)).mono ?_
          rw [show (0 : Int).toNat = 0 from rfl]
          rintro e w' ⟨rfl, rfl⟩
          generalize nextOb L' 0 = o0 at *
          go_wp2_with fail
          go_loop [12, 13] (fun vl vo => ∃ last o : Nat, Hid (Seeks L' m size a last o) ∧ o ≤ m ∧ last ≤ m ∧ vl = .int .i64 last ∧ vo = .int .i64 o) (fun _ vo => 65537 - (intOf vo).toNat)
          case atStart => exact ⟨1, o0, HK, hom, by omega, rfl, rfl⟩
          case round =>
            obtain ⟨last, o, HKr, ho1, hl1, rfl, rfl⟩ := hrel
            clear HK
            by_cases hoa : o = a ∨ o = 0
            · obtain ⟨he1, he2⟩ := seeks_end HKr.out hoa
              have B1 : ((o : Int) != (a : Int)) = false := by rw [he1]; simp
              have B2 : ((a : Int) == (last : Int)) = true := by rw [he2]; simp
              clear he1 he2 hoa
              go_wp2_with fail
              go_ret
              exact ⟨rfl, HB5.out.trans H6.out.2⟩
            · have hne1 : o ≠ a := fun h => hoa (.inl h)
              have hne2 : o ≠ 0 := fun h => hoa (.inr h)
              obtain ⟨x, f1, f2, f3, f4, f5, f6, f7, f8⟩ := seeks_step HKr.out hne1
              have B1 : ((o : Int) != (a : Int)) = true := by rw [bne_iff_ne]; omega
              have B2 : ((o : Int) != 0) = true := by rw [bne_iff_ne]; omega
              have HSZ := Lib.hid (size_found f1)
              have HN := Lib.hid f6
              have HX := Lib.hid (show x.next = o + x.fs.length + 1 by have hnx : x.next = x.at_ + 1 + x.fs.length := rfl; omega)
              have hxl : o + x.fs.length + 1 ≤ m := by have hnx : x.next = x.at_ + 1 + x.fs.length := rfl; omega
              have hNX := g_Next q _ m L' _ H6.out.1 ((o : Int) + 1) HT6.out (by omega)
              rw [show ((o : Int) + 1).toNat = o + 1 by omega] at hNX
              have HNX := Lib.hid hNX
              have hSI := g_Size q _ m L' _ H6.out.1 (o : Int)
              rw [HSZ.out] at hSI
              have HSI := Lib.hid hSI
              clear f1 f2 f5 f6 hoa hNX hSI
              generalize nextOb L' (o + 1) = o2 at *
              generalize x.fs.length = nf at *
              go_wp2_with fail
              refine HSI.out.mono ?_
              rintro e w' ⟨rfl, rfl⟩
              go_wp2_with fail
              refine HNX.out.mono ?_
              rintro e w' ⟨rfl, rfl⟩
              go_wp2_with fail
              go_round
              case rel => exact ⟨o + nf + 1, o2, by rw [← HX.out]; exact HN, f8, hxl, by go_num, rfl⟩
              case measure => simp [intOf]; omega
        · have g2 : decide ((i : Int) < (n : Int)) = true := by rw [decide_eq_true_iff]; omega
          have g3 : decide ((i : Int) < 400) = false := by rw [decide_eq_false_iff_not]; omega
          go_wp2_with fail
          refine (g_Longest q _ m L _ H1.out).mono ?_
          rintro e w5 ⟨rfl, hb5⟩
          have H5 := Lib.hid (H1.out.below hb5)
          have HB5 := Lib.hid (HB1.out.trans (hb5.mono hsz))
          have hz5 : w.heap.size ≤ w5.heap.size := Nat.le_trans hsz hb5.size
          have HT5 := Lib.hid (HTr.out.below hb5 HTr.out.lt)
          clear hb5
          generalize longOf m L = lg at *
          go_wp2_with fail
          have hal := g_Alloc q _ m L _ H5.out 6 (size : Int)
          rw [HA6.out, HA.out] at hal
          refine hal.mono ?_
          rintro e w6 ⟨rfl, hs6⟩
          have H6 := Lib.hid (hs6.from hz5)
          have HT6 : Hid (Tab w6) := Lib.hid (HT5.out.below H6.out.2 HT.out.lt)
          clear hs6 hal
          go_wp2_with fail
          refine (g_Next q _ m L' _ H6.out.1 0 HT6.out (by decide)).mono ?_
          rw [show (0 : Int).toNat = 0 from rfl]
          rintro e w' ⟨rfl, rfl⟩
          generalize nextOb L' 0 = o0 at *
          go_wp2_with fail
          go_loop [12, 13] (fun vl vo => ∃ last o : Nat, Hid (Seeks L' m size a last o) ∧ o ≤ m ∧ last ≤ m ∧ vl = .int .i64 last ∧ vo = .int .i64 o) (fun _ vo => 65537 - (intOf vo).toNat)
          case atStart => exact ⟨1, o0, HK, hom, by omega, rfl, rfl⟩
          case round =>
            obtain ⟨last, o, HKr, ho1, hl1, rfl, rfl⟩ := hrel
            clear HK
            by_cases hoa : o = a ∨ o = 0
            · obtain ⟨he1, he2⟩ := seeks_end HKr.out hoa
              have B1 : ((o : Int) != (a : Int)) = false := by rw [he1]; simp
              have B2 : ((a : Int) == (last : Int)) = true := by rw [he2]; simp
              clear he1 he2 hoa
              go_wp2_with fail
              go_ret
              exact ⟨rfl, HB5.out.trans H6.out.2⟩
            · have hne1 : o ≠ a := fun h => hoa (.inl h)
              have hne2 : o ≠ 0 := fun h => hoa (.inr h)
              obtain ⟨x, f1, f2, f3, f4, f5, f6, f7, f8⟩ := seeks_step HKr.out hne1
              have B1 : ((o : Int) != (a : Int)) = true := by rw [bne_iff_ne]; omega
              have B2 : ((o : Int) != 0) = true := by rw [bne_iff_ne]; omega
              have HSZ := Lib.hid (size_found f1)
              have HN := Lib.hid f6
              have HX := Lib.hid (show x.next = o + x.fs.length + 1 by have hnx : x.next = x.at_ + 1 + x.fs.length := rfl; omega)
              have hxl : o + x.fs.length + 1 ≤ m := by have hnx : x.next = x.at_ + 1 + x.fs.length := rfl; omega
              have hNX := g_Next q _ m L' _ H6.out.1 ((o : Int) + 1) HT6.out (by omega)
              rw [show ((o : Int) + 1).toNat = o + 1 by omega] at hNX
              have HNX := Lib.hid hNX
              have hSI := g_Size q _ m L' _ H6.out.1 (o : Int)
              rw [HSZ.out] at hSI
              have HSI := Lib.hid hSI
              clear f1 f2 f5 f6 hoa hNX hSI
              generalize nextOb L' (o + 1) = o2 at *
              generalize x.fs.length = nf at *
              go_wp2_with fail
              refine HSI.out.mono ?_
              rintro e w' ⟨rfl, rfl⟩
              go_wp2_with fail
              refine HNX.out.mono ?_
              rintro e w' ⟨rfl, rfl⟩
              go_wp2_with fail
              go_round
              case rel => exact ⟨o + nf + 1, o2, by rw [← HX.out]; exact HN, f8, hxl, by go_num, rfl⟩
              case measure => simp [intOf]; omega
theorem law_Fits (words size : Int) (A : Option Addr) (n c : Nat) (w : World) (hT : Tab w) (hw : -9223372036854775808 ≤ words ∧ words ≤ 9223372036854775807) (hs : -9223372036854775808 ≤ size ∧ size ≤ 9223372036854775807) (hS : Script w A n) (hn : n ≤ 9223372036854775807) :
    Calls Tryd.prog 6 #[.int .i64 words, .slice A n c, .int .i64 size] w (YesMade true w) := by
  by_cases h1 : 2 ≤ words ∧ words ≤ 65536
  · by_cases h2 : 0 ≤ size ∧ size ≤ 4096
    · have h3 := fits_any words A n c size.toNat w hT h1 (by omega) hS hn
      rw [Int.toNat_of_nonneg h2.1] at h3
      exact h3
    · exact fits_size words A n c size w hT h1 (by omega)
  · exact fits_nil words A n c size w hT (by omega)
end Go.Proofs.YtmodogojpmepiaaDoor
