/-
  A script of the collector's laws in memory; the walk of 'both': a heap of the program's and one of the document's with the same objects.
-/
import Derived.Test.YtbmkjlpjgkfjcaaDoorGCalls
import Derived.Test.YtbmkjlpjgkfjcaaDoorHLawD
namespace Go.Proofs.YtbmkjlpjgkfjcaaDoor
open Go.RowKit
structure Stp3 where
  k : Int
  a : Int
  b : Int
  x : Nat
  ra : Option Addr
  rn : Nat
  rc : Nat
  roots : List Nat
def StepAt3 (w : World) (V : Nat → Prop) (A : Option Addr) (i : Nat) (s : Stp3) : Prop :=
  ∃ b off, A = some ⟨b, off, none⟩ ∧ b < w.heap.size ∧ V b ∧ w.cell? ⟨b, off + i * 5, none⟩ = some (.int .i64 s.k) ∧ w.cell? ⟨b, off + i * 5 + 1, none⟩ = some (.int .i64 s.a) ∧
    w.cell? ⟨b, off + i * 5 + 2, none⟩ = some (.int .i64 s.b) ∧ w.cell? ⟨b, off + i * 5 + 3, none⟩ = some (.int .u64 (s.x : Int)) ∧ w.cell? ⟨b, off + i * 5 + 4, none⟩ = some (.slice s.ra s.rn s.rc) ∧
    s.x < 18446744073709551616 ∧ WordsAt w V s.ra s.rn s.roots ∧ s.rn ≤ 9223372036854775807 ∧ -9223372036854775808 ≤ s.a ∧ s.a ≤ 9223372036854775807 ∧ -9223372036854775808 ≤ s.b ∧ s.b ≤ 9223372036854775807
def Script3 (w : World) (V : Nat → Prop) (A : Option Addr) (n : Nat) : Prop := ∀ i, i < n → ∃ s, StepAt3 w V A i s
def BothIs (m : Nat) (w : World) (e : Ending) (w' : World) : Prop := ∃ q r, e = .returned (.tuple #[.pointer (some ⟨q, 0, none⟩), .pointer (some ⟨r, 0, none⟩)]) ∧ Mid2 q r m w w'
theorem both_nil (words : Int) (A : Option Addr) (n c : Nat) (w : World) (h : words < 2 ∨ 65536 < words) :
    Calls Tryd.prog 25 #[.int .i64 words, .slice A n c] w fun e w' => e = .returned (.tuple #[.pointer none, .pointer none]) ∧ w = w' := by
  by_cases hn : 0 < n
  · have g1 : decide (0 < (n : Int)) = true := by rw [decide_eq_true_iff]; omega
    have g2 : decide (0 < n) = true := by rw [decide_eq_true_iff]; omega
    go_enter Tryd.func25, Tryd.ntmps25
    go_wp2_with fail
    refine (new_nil words _ h).mono ?_
    rintro e w' ⟨rfl, rfl⟩
    go_wp2_with fail
    refine (ref_New_nil words _ h).mono ?_
    rintro e w' ⟨rfl, rfl⟩
    go_wp2_with fail
    go_loop [8] (fun vi => vi = .int .i64 0) (fun _ => 0)
    case atStart => rfl
    case round =>
      subst hrel
      go_wp2_with fail
      go_ret2
      exact ⟨rfl, rfl⟩
  · obtain rfl : n = 0 := by omega
    go_enter Tryd.func25, Tryd.ntmps25
    go_wp2_with fail
    refine (new_nil words _ h).mono ?_
    rintro e w' ⟨rfl, rfl⟩
    go_wp2_with fail
    refine (ref_New_nil words _ h).mono ?_
    rintro e w' ⟨rfl, rfl⟩
    go_wp2_with fail
    go_loop [8] (fun vi => vi = .int .i64 0) (fun _ => 0)
    case atStart => rfl
    case round =>
      subst hrel
      go_wp2_with fail
      go_ret2
      exact ⟨rfl, rfl⟩
theorem mid_start2 {q r m : Nat} {w w2 w3 : World} (h1 : HAt w2 q (fun b => w.heap.size ≤ b) m []) (hb1 : Below w.heap.size w w2) (h2 : RefAt w3 r (fun b => w2.heap.size ≤ b) m []) (hb2 : Below w2.heap.size w2 w3) : Mid2 q r m w w3 := mid_start (Below.refl _ _) h1 hb1 h2 hb2
theorem mid_step {q r m : Nat} {w wr w4 : World} {L' : List Ob} (hb : Below w.heap.size w wr) (hs : TwinStep (fun b => b < w.heap.size) q r m L' L' wr w4) : Mid2 q r m w w4 := ⟨L', hs.1, hb.trans (hs.2.below (fun _ hb => hb) hb.size)⟩
set_option maxHeartbeats 4000000 in
set_option maxRecDepth 100000 in
theorem both_any (m : Nat) (A : Option Addr) (n c : Nat) (w : World) (h : 2 ≤ m ∧ m ≤ 65536) (hS : Script3 w (fun b => b < w.heap.size) A n) (hn : n ≤ 9223372036854775807) :
    Calls Tryd.prog 25 #[.int .i64 (m : Int), .slice A n c] w (BothIs m w) := by
  have HS := Lib.hid hS
  have hm := h.2
  clear hS
  go_enter Tryd.func25, Tryd.ntmps25
  go_wp2_with fail
  refine (g_New m h.1 h.2 _).mono ?_
  rintro e w2 ⟨q, rfl, h2, hb2⟩
  have H2 := Lib.hid h2
  have HB2 := Lib.hid hb2
  clear h2 hb2
  go_wp2_with fail
  refine (ref_New m _ h).mono ?_
  rintro e w3 ⟨r, rfl, h3, hb3⟩
  have HM : Hid (Mid2 q r m w w3) := Lib.hid (mid_start2 H2.out HB2.out h3 hb3)
  clear h3 hb3 H2 HB2 h
  go_wp2_with fail
  go_loopw [8] (fun vi wr => ∃ i : Nat, i ≤ n ∧ i ≤ 200 ∧ vi = .int .i64 i ∧ Hid (Mid2 q r m w wr)) (fun vi _ => n - (intOf vi).toNat)
  case atStart => exact ⟨0, by omega, by omega, by go_num, HM⟩
  case round =>
    obtain ⟨i, hin, hi4, rfl, HMI⟩ := hrel
    clear HM
    have hcase : (i < n ∧ i < 200) ∨ n ≤ i ∨ (i < n ∧ 200 ≤ i) := by omega
    rcases hcase with ⟨hi1, hi2⟩ | hc | ⟨hc, hc4⟩
    · have g2 : decide ((i : Int) < (n : Int)) = true := by rw [decide_eq_true_iff]; omega
      have g3 : decide ((i : Int) < 200) = true := by rw [decide_eq_true_iff]; omega
      obtain ⟨L, h1, hb⟩ := HMI.out
      obtain ⟨s, b, off, rfl, hbl, _, e0, e1, e2, e3, e4, hsx, _⟩ := HS.out i hi1
      have k0 := (hb.cell (p := ⟨b, off + i * 5, none⟩) hbl).trans e0
      have k1 := (hb.cell (p := ⟨b, off + i * 5 + 1, none⟩) hbl).trans e1
      have k2 := (hb.cell (p := ⟨b, off + i * 5 + 2, none⟩) hbl).trans e2
      have k3 := (hb.cell (p := ⟨b, off + i * 5 + 3, none⟩) hbl).trans e3
      have hsz := hb.size
      have H1 := Lib.hid h1
      have HB1 := Lib.hid hb
      have HL := Lib.hid h1.lies
      have hlen := lies_len h1.lies hm
      have HFL := Lib.hid (lies_fields h1.lies hm)
      have g4 : (0 : Int) ≤ (i : Int) := by omega
      have g5 : (i : Int) < (n : Int) := by omega
      have hbr : b < wr.heap.size := by omega
      clear h1 hb e0 e1 e2 e3 e4 HMI
      by_cases hk : s.k = 0
      · have B0 : (s.k == 0) = true := by simp [hk]
        clear hk
        go_upto_region 8 with fail
        have g6 : IntKind.i64.wrap (i : Int) = (i : Int) := by rw [IntKind.wrap_i64]; omega
        go_region_held3 (fun W => W.cell? ⟨b, off + i * 5 + 1, none⟩ = some (.int .i64 s.a) ∧ W.cell? ⟨b, off + i * 5 + 2, none⟩ = some (.int .i64 s.b)) (go_keep) ((go_at_call 18; refine (t_Alloc (fun b => b < w.heap.size) q r m L L _ ?_ s.a s.b).mono ?_; exact H1.out.drew; rintro e w4 ⟨rfl, hs4⟩; have H4 := Lib.hid hs4; have hbr2 := Nat.lt_of_lt_of_le hbr hs4.2.size; clear hs4; have j1 := (H4.out.2.cell (p := ⟨b, off + i * 5 + 1, none⟩) hbl hbr).trans k1; have j2 := (H4.out.2.cell (p := ⟨b, off + i * 5 + 2, none⟩) hbl hbr).trans k2))
        clear g6
        go_upto_region 9 with fail
        have g6 : IntKind.i64.wrap (i : Int) = (i : Int) := by rw [IntKind.wrap_i64]; omega
        go_region_held3 (fun W => W.cell? ⟨b, off + i * 5 + 1, none⟩ = some (.int .i64 s.a) ∧ W.cell? ⟨b, off + i * 5 + 2, none⟩ = some (.int .i64 s.b)) (go_keep) ((go_at_call 66; refine (s_Alloc (fun b => b < w.heap.size) q r m (hAlloc m L s.a s.b).2.2 L _ ?_ s.a s.b HL.out hm hlen).mono ?_; exact H4.out.1.drew; rintro e w5 ⟨rfl, hs5⟩; have H5 := Lib.hid hs5; clear hs5; have j3 := (H5.out.2.cell (p := ⟨b, off + i * 5 + 1, none⟩) hbl hbr2).trans j1; have j4 := (H5.out.2.cell (p := ⟨b, off + i * 5 + 2, none⟩) hbl hbr2).trans j2))
        have HM5 : Hid (Mid2 q r m w w5) := Lib.hid (mid_step HB1.out (TwinStep.then (TwinStep.then ⟨H1.out.drew, Stands.of_below (Below.refl _ wr).drew⟩ H4.out) (TwinStep.then ⟨H4.out.1.drew, Stands.of_below (Below.refl _ w4).drew⟩ H5.out)))
        clear g6 H4 H5
        go_wp2_with fail
        go_roundw
        case rel => exact ⟨i + 1, by omega, by omega, by go_num, HM5⟩
        case measure => simp [intOf]; omega
      · have B0 : (s.k == 0) = false := by simp [hk]
        by_cases hk1 : s.k = 1
        · have B1 : (s.k == 1) = true := by simp [hk1]
          clear hk hk1
          go_upto_region 11 with fail
          have g6 : IntKind.i64.wrap (i : Int) = (i : Int) := by rw [IntKind.wrap_i64]; omega
          go_region_held3 (fun W => W.cell? ⟨b, off + i * 5 + 1, none⟩ = some (.int .i64 s.a) ∧ W.cell? ⟨b, off + i * 5 + 2, none⟩ = some (.int .i64 s.b) ∧ W.cell? ⟨b, off + i * 5 + 3, none⟩ = some (.int .u64 (s.x : Int))) (go_keep) ((go_at_call 21; refine (t_Set (fun b => b < w.heap.size) q r m L L _ ?_ s.a s.b s.x hsx).mono ?_; exact H1.out.drew; rintro e w4 ⟨rfl, hs4⟩; have H4 := Lib.hid hs4; have hbr2 := Nat.lt_of_lt_of_le hbr hs4.2.size; clear hs4; have j1 := (H4.out.2.cell (p := ⟨b, off + i * 5 + 1, none⟩) hbl hbr).trans k1; have j2 := (H4.out.2.cell (p := ⟨b, off + i * 5 + 2, none⟩) hbl hbr).trans k2; have j3 := (H4.out.2.cell (p := ⟨b, off + i * 5 + 3, none⟩) hbl hbr).trans k3))
          clear g6
          go_upto_region 12 with fail
          have g6 : IntKind.i64.wrap (i : Int) = (i : Int) := by rw [IntKind.wrap_i64]; omega
          go_region_held3 (fun W => W.cell? ⟨b, off + i * 5 + 1, none⟩ = some (.int .i64 s.a) ∧ W.cell? ⟨b, off + i * 5 + 2, none⟩ = some (.int .i64 s.b) ∧ W.cell? ⟨b, off + i * 5 + 3, none⟩ = some (.int .u64 (s.x : Int))) (go_keep) ((go_at_call 68; refine (s_Set (fun b => b < w.heap.size) q r m (hSet L s.a s.b s.x).2 L _ ?_ s.a s.b s.x HL.out hlen HFL.out).mono ?_; exact H4.out.1.drew; rintro e w5 ⟨rfl, hs5⟩; have H5 := Lib.hid hs5; clear hs5; have j4 := (H5.out.2.cell (p := ⟨b, off + i * 5 + 1, none⟩) hbl hbr2).trans j1; have j5 := (H5.out.2.cell (p := ⟨b, off + i * 5 + 2, none⟩) hbl hbr2).trans j2; have j6 := (H5.out.2.cell (p := ⟨b, off + i * 5 + 3, none⟩) hbl hbr2).trans j3))
          have HM5 : Hid (Mid2 q r m w w5) := Lib.hid (mid_step HB1.out (TwinStep.then (TwinStep.then ⟨H1.out.drew, Stands.of_below (Below.refl _ wr).drew⟩ H4.out) (TwinStep.then ⟨H4.out.1.drew, Stands.of_below (Below.refl _ w4).drew⟩ H5.out)))
          clear g6 H4 H5
          go_wp2_with fail
          go_roundw
          case rel => exact ⟨i + 1, by omega, by omega, by go_num, HM5⟩
          case measure => simp [intOf]; omega
        · have B1 : (s.k == 1) = false := by simp [hk1]
          clear hk hk1
          go_wp2_with fail
          go_roundw
          case rel => exact ⟨i + 1, by omega, by omega, by go_num, Lib.hid ⟨L, H1.out, HB1.out⟩⟩
          case measure => simp [intOf]; omega
    · have g2 : decide ((i : Int) < (n : Int)) = false := by rw [decide_eq_false_iff_not]; omega
      go_wp2_with fail
      go_ret2
      exact ⟨q, r, rfl, HMI.out⟩
    · have g2 : decide ((i : Int) < (n : Int)) = true := by rw [decide_eq_true_iff]; omega
      have g3 : decide ((i : Int) < 200) = false := by rw [decide_eq_false_iff_not]; omega
      go_wp2_with fail
      go_ret2
      exact ⟨q, r, rfl, HMI.out⟩
end Go.Proofs.YtbmkjlpjgkfjcaaDoor
