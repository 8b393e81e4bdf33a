/-
  The walk of the law HeapDoes: whatever the input, it returns true and leaves what was there as it was. Condition: the table of math/bits holds what its initialiser lays.
-/
import Derived.Test.YtbmkjlpjgkfjcaaDoorHSame
namespace Go.Proofs.YtbmkjlpjgkfjcaaDoor
open Go.RowKit
theorem do_any (F : Nat → Prop) (q r m : Nat) (L : List Ob) (s : Stp) (w : World) (h : Twin F w q r m L L) (hF : ∀ b, F b → b < w.heap.size) (hm : m ≤ 65536) (hT : Tab w) (hx : s.x < 18446744073709551616) (ha : s.a ≤ 9223372036854775807) :
    Calls Tryd.prog 16 #[.pointer (some ⟨q, 0, none⟩), .pointer (some ⟨r, 0, none⟩), .agg #[.int .i64 s.k, .int .i64 s.a, .int .i64 s.b, .int .u64 (s.x : Int)]] w (DoIs F q r m w) := by
  obtain ⟨k, a, b, x⟩ := s
  by_cases h0 : k = 0
  · subst h0; exact do_alloc F q r m L a b x w h hF hm
  by_cases h1 : k = 1
  · subst h1; exact do_free F q r m L a b x w h hF hm
  by_cases h2 : k = 2
  · subst h2; exact do_get F q r m L a b x w h hF hm
  by_cases h3 : k = 3
  · subst h3; exact do_set F q r m L a b x w h hF hm hx
  by_cases h4 : k = 4
  · subst h4; exact do_next F q r m L a b x w h hF hm hT ha
  by_cases h5 : k = 5
  · subst h5; exact do_kind F q r m L a b x w h hF hm
  exact do_else F q r m L k a b x w h hF hm (by omega)
/-- A heap apart from the blocks K, which stand. -/
def Apart (K : Nat → Prop) (w : World) (q m : Nat) : Prop := ∃ S L, HAt w q S m L ∧ (∀ b, S b → ¬ K b) ∧ ∀ b, K b → b < w.heap.size
def ApartStep (K : Nat → Prop) (q m : Nat) (w w' : World) : Prop := Apart K w' q m ∧ Stands K w w'
theorem apart_step {K : Nat → Prop} {w w' : World} {q m : Nat} {S : Nat → Prop} {L' : List Ob} (h2 : ∀ b, S b → ¬ K b) (h3 : ∀ b, K b → b < w.heap.size) (hs : HStep q S m L' w w') : ApartStep K q m w w' := by
  refine ⟨⟨_, L', hs.1, ?_, fun b hb => Nat.lt_of_lt_of_le (h3 b hb) hs.2.size⟩, hs.2.mono h2⟩
  rintro b (hS | hb) hK
  · exact h2 b hS hK
  · have := h3 b hK; omega
def SomeFree (K : Nat → Prop) (q m : Nat) (w : World) (x : Ending) (w' : World) : Prop := ∃ e : Int, x = .returned (.int .i64 e) ∧ ApartStep K q m w w'
def SomeAlloc (K : Nat → Prop) (q m : Nat) (w : World) (x : Ending) (w' : World) : Prop := ∃ a e : Int, x = .returned (.tuple #[.int .i64 a, .int .i64 e]) ∧ ApartStep K q m w w'
def SomeNext (w : World) (x : Ending) (w' : World) : Prop := ∃ n : Nat, x = .returned (.int .i64 (n : Int)) ∧ w = w'
section
variable (K : Nat → Prop) (q m : Nat) (w : World) (h : Apart K w q m)
include h
theorem o_Alloc (k n : Int) : Calls Tryd.prog 18 #[.pointer (some ⟨q, 0, none⟩), .int .i64 k, .int .i64 n] w (SomeAlloc K q m w) := by
  obtain ⟨S, L, h1, h2, h3⟩ := h
  exact (g_Alloc q S m L w h1 k n).mono fun e w' ⟨he, hs⟩ => ⟨_, _, he, apart_step h2 h3 hs⟩
theorem o_Free (a : Int) : Calls Tryd.prog 19 #[.pointer (some ⟨q, 0, none⟩), .int .i64 a] w (SomeFree K q m w) := by
  obtain ⟨S, L, h1, h2, h3⟩ := h
  exact (g_Free q S m L w h1 a).mono fun e w' ⟨he, hs⟩ => ⟨_, he, apart_step h2 h3 hs⟩
theorem o_Set (a : Int) : Calls Tryd.prog 21 #[.pointer (some ⟨q, 0, none⟩), .int .i64 a, .int .i64 0, .int .u64 77] w (SomeFree K q m w) := by
  obtain ⟨S, L, h1, h2, h3⟩ := h
  exact (g_Set q S m L w h1 a 0 77 (by decide)).mono fun e w' ⟨he, hs⟩ => ⟨_, he, apart_step h2 h3 hs⟩
theorem o_Next (hT : Tab w) : Calls Tryd.prog 20 #[.pointer (some ⟨q, 0, none⟩), .int .i64 0] w (SomeNext w) := by
  obtain ⟨S, L, h1, h2, h3⟩ := h
  exact (g_Next q S m L w h1 0 hT (by decide)).mono fun e w' ⟨he, hw⟩ => ⟨_, he, hw⟩
end
/-- In the midst of the law: both heaps hold the same; all that was there stands. -/
def Mid2 (q r m : Nat) (w wr : World) : Prop := ∃ L, Twin (fun b => b < w.heap.size) wr q r m L L ∧ Below w.heap.size w wr
theorem Mid2.drew {q r m : Nat} {w wr : World} (h : Mid2 q r m w wr) : Mid2 q r m w wr.drew := by
  obtain ⟨L, h1, h2⟩ := h
  exact ⟨L, h1.drew, h2.drew⟩
theorem mid_start {q r m : Nat} {w w1 w2 w3 : World} (hb : Below w.heap.size w w1) (h1 : HAt w2 q (fun b => w1.heap.size ≤ b) m []) (hb1 : Below w1.heap.size w1 w2) (h2 : RefAt w3 r (fun b => w2.heap.size ≤ b) m []) (hb2 : Below w2.heap.size w2 w3) : Mid2 q r m w w3 := by
  have z1 := hb.size
  have z2 := hb1.size
  refine ⟨[], ⟨_, _, h1.bound.below hb2, h2.bound, ?_, ?_, ?_, fun b hT => hT.2, fun b hF => Nat.lt_of_lt_of_le hF (Nat.le_trans z1 (Nat.le_trans z2 hb2.size))⟩, hb.trans ((hb1.trans (hb2.mono z2)).mono z1)⟩
  · rintro b ⟨_, hl⟩ ⟨hT, _⟩
    omega
  · rintro b ⟨hS, _⟩ hF
    omega
  · rintro b ⟨hT, _⟩ hF
    omega
/-- The copy goes on in the old one's place; the old one is apart. -/
theorem mid_copy {q r m : Nat} {w wr w1 : World} {L : List Ob} {q' : Nat} (h : Twin (fun b => b < w.heap.size) wr q r m L L) (hb : Below w.heap.size w wr) (h1 : HAt w1 q' (fun b => wr.heap.size ≤ b) m L) (hb1 : Below wr.heap.size wr w1) :
    ∃ K : Nat → Prop, Apart K w1 q m ∧ (∀ b, b < w.heap.size → K b) ∧ ∀ w4, Stands K w1 w4 → Mid2 q' r m w w4 := by
  obtain ⟨S, T, g1, g2, g3, g4, g5, g6, g7⟩ := h
  have z := hb.size
  have z1 := hb1.size
  refine ⟨fun b => b < w.heap.size ∨ T b ∨ (wr.heap.size ≤ b ∧ b < w1.heap.size), ⟨_, L, g1.bound.below hb1, ?_, ?_⟩, fun b hF => .inl hF, fun w4 hs => ?_⟩
  · rintro b ⟨hS, hl⟩ (hw | hT | ⟨hc, _⟩)
    · exact g4 b hS hw
    · exact g3 b hS hT
    · omega
  · rintro b (hw | hT | ⟨_, hc⟩)
    · omega
    · have := g6 b hT; omega
    · exact hc
  · have hk : ∀ b, (b < w.heap.size ∨ T b ∨ (wr.heap.size ≤ b ∧ b < w1.heap.size)) → b < w1.heap.size → w4.heap[b]? = w1.heap[b]? := fun b hK hl => hs.block b hl fun hn => hn hK
    have z4 := hs.size
    refine ⟨L, ⟨(fun b => wr.heap.size ≤ b ∧ b < w1.heap.size), T, h1.bound.keep fun b hl hS => hk b (.inr (.inr hS)) hl, (g2.below hb1).keep fun b hl hT => hk b (.inr (.inl hT)) hl, ?_, ?_, g5, fun b hT => ?_, fun b hF => ?_⟩, ?_⟩
    · rintro b ⟨hS, _⟩ hT
      have := g6 b hT; omega
    · rintro b ⟨hS, _⟩ hF
      have : b < w.heap.size := hF
      omega
    · have := g6 b hT; omega
    · have : b < w.heap.size := hF
      omega
    · exact (hb.trans (hb1.mono z)).trans (hs.below (fun b hb => .inl hb) (by omega))
set_option maxHeartbeats 1000000 in
theorem does_nil (words : Int) (A : Option Addr) (n c : Nat) (w : World) (hT : Tab w) (h : words < 2 ∨ 65536 < words) :
    Calls Tryd.prog 3 #[.int .i64 words, .slice A n c] w (YesMade true w) := by
  have HT := Lib.hid hT
  clear hT
  have HG : Hid ((decide (8192 < words) = true ∧ decide (words ≤ 65536) = false) ∨ decide (8192 < words) = false) := by
    refine Lib.hid ?_
    by_cases h1 : 8192 < words
    · exact .inl ⟨decide_eq_true_iff.2 h1, by rw [decide_eq_false_iff_not]; omega⟩
    · exact .inr (by rw [decide_eq_false_iff_not]; exact h1)
  rcases HG.out with ⟨g1, g2⟩ | g1
  all_goals
    clear HG
    go_enter Tryd.func3, Tryd.ntmps3
    go_wp2_with fail
    refine (awake_any _ HT.out).mono ?_
    rintro e w1 ⟨rfl, hb⟩
    have HB := Lib.hid hb
    clear hb
    go_wp2_with fail
    refine (new_nil words _ h).mono ?_
    rintro e w' ⟨rfl, rfl⟩
    go_wp2_with fail
    refine (ref_New_nil words _ h).mono ?_
    rintro e w' ⟨rfl, rfl⟩
    go_wp2_with fail
    go_ret
    exact ⟨rfl, HB.out⟩
theorem does_great (words : Int) (A : Option Addr) (n c : Nat) (w : World) (hT : Tab w) (h : 8192 < words ∧ words ≤ 65536) :
    Calls Tryd.prog 3 #[.int .i64 words, .slice A n c] w (YesMade true w) := by
  have HT := Lib.hid hT
  clear hT
  have g1 : decide (8192 < words) = true := by rw [decide_eq_true_iff]; omega
  have g2 : decide (words ≤ 65536) = true := by rw [decide_eq_true_iff]; omega
  go_enter Tryd.func3, Tryd.ntmps3
  go_wp2_with fail
  refine (awake_any _ HT.out).mono ?_
  rintro e w1 ⟨rfl, hb⟩
  have HB := Lib.hid hb
  clear hb
  go_wp2_with fail
  go_ret
  exact ⟨rfl, HB.out⟩
set_option maxHeartbeats 4000000 in
set_option maxRecDepth 100000 in
theorem does_walk (m : Nat) (A : Option Addr) (n c : Nat) (w : World) (hT : Tab w) (h : 2 ≤ m ∧ m ≤ 8192) (hS : Script w A n) (hn : n ≤ 9223372036854775807) :
    Calls Tryd.prog 3 #[.int .i64 (m : Int), .slice A n c] w (YesMade true w) := by
  have HT := Lib.hid hT
  have HS := Lib.hid hS
  have g0 : decide (8192 < (m : Int)) = false := by rw [decide_eq_false_iff_not]; omega
  have hm : m ≤ 65536 := by omega
  clear hT hS
  go_enter Tryd.func3, Tryd.ntmps3
  go_wp2_with fail
  refine (awake_any _ HT.out).mono ?_
  rintro e w1 ⟨rfl, hb⟩
  have HB := Lib.hid hb
  clear hb
  go_wp2_with fail
  refine (g_New m h.1 hm _).mono ?_
  rintro e w2 ⟨q, rfl, h2, hb2⟩
  have H2 := Lib.hid h2
  have HB2 := Lib.hid hb2
  clear h2 hb2
  go_wp2_with fail
  refine (ref_New m _ ⟨h.1, hm⟩).mono ?_
  rintro e w3 ⟨r, rfl, h3, hb3⟩
  have HM : Hid (Mid2 q r m w w3) := Lib.hid (mid_start HB.out H2.out HB2.out h3 hb3)
  clear h3 hb3 H2 HB2 HB
  go_wp2_with fail
  go_loopw [7, 5] (fun vi vq wr => ∃ i q : Nat, i ≤ n ∧ i ≤ 400 ∧ vi = .int .i64 i ∧ vq = .pointer (some ⟨q, 0, none⟩) ∧ Hid (Mid2 q r m w wr)) (fun vi _ _ => n - (intOf vi).toNat)
  case atStart => exact ⟨0, q, by omega, by omega, by go_num, rfl, HM⟩
  case round =>
    obtain ⟨i, q, hin, hi4, rfl, rfl, HMI⟩ := hrel
    clear HM
    have hcase : (i < n ∧ i < 400) ∨ n ≤ i ∨ (i < n ∧ 400 ≤ i) := by omega
    rcases hcase with ⟨hi1, hi2⟩ | hc | ⟨hc, hc4⟩
    · have g2 : decide ((i : Int) < (n : Int)) = true := by rw [decide_eq_true_iff]; omega
      have g3 : decide ((i : Int) < 400) = true := by rw [decide_eq_true_iff]; omega
      obtain ⟨L, h1, hb⟩ := HMI.out
      obtain ⟨s, b, off, rfl, hbl, e0, e1, e2, e3, hsx, hsl, hsh⟩ := HS.out i hi1
      have k0 := (hb.cell (p := ⟨b, off + i * 4, none⟩) hbl).trans e0
      have k1 := (hb.cell (p := ⟨b, off + i * 4 + 1, none⟩) hbl).trans e1
      have k2 := (hb.cell (p := ⟨b, off + i * 4 + 2, none⟩) hbl).trans e2
      have k3 := (hb.cell (p := ⟨b, off + i * 4 + 3, none⟩) hbl).trans e3
      have hsz := hb.size
      have H1 := Lib.hid h1
      have HB1 := Lib.hid hb
      have HDO := Lib.hid (do_any _ q r m L s wr h1 (fun b hF => Nat.lt_of_lt_of_le hF hsz) hm (HT.out.below hb HT.out.lt) hsx hsh)
      clear h1 hb e0 e1 e2 e3 HMI
      go_wp2_with fail
      refine HDO.out.mono ?_
      rintro e w4 ⟨L', rfl, hs⟩
      have hb4 := HB1.out.trans (hs.2.below (fun b hb => hb) hsz)
      have H4 := Lib.hid hs.1
      have HB4 := Lib.hid hb4
      have hz4 := hb4.size
      clear hs hb4 HDO k0 k1 k2 k3 H1 HB1 hsz
      by_cases hmid : i = n / 2
      · have B1 : ((i : Int) == (n : Int) / 2) = true := by rw [beq_iff_eq]; omega
        clear hmid
        have HCP := Lib.hid fun (S : Nat → Prop) (hq : HAt w4 q S m L') => g_Copy q S m L' w4 hq
        have hat : ∃ S, HAt w4 q S m L' := by
          obtain ⟨S, T, g1, _⟩ := H4.out
          exact ⟨S, g1⟩
        obtain ⟨S, hat⟩ := hat
        have HAT := Lib.hid hat
        clear hat
        go_wp2_with fail
        refine (HCP.out S HAT.out).mono ?_
        rintro e w5 ⟨q', rfl, h5, hb5⟩
        obtain ⟨K, ha, hkf, hk⟩ := mid_copy H4.out HB4.out h5 hb5
        have HA := Lib.hid ha
        have HK := Lib.hid hk
        have HT5 : Hid (Tab w5) := Lib.hid (HT.out.below (HB4.out.trans (hb5.mono hz4)) HT.out.lt)
        have HKF := Lib.hid hkf
        have HZ5 : Hid (w.heap.size ≤ w5.heap.size) := Lib.hid (Nat.le_trans hz4 hb5.size)
        clear h5 hb5 ha hk hkf hz4 HCP HAT H4 HB4
        go_wp2_with fail
        refine (o_Alloc K q m w5 HA.out 5 1).mono ?_
        rintro e w6 ⟨a6, e6, rfl, hs6⟩
        have HA6 := Lib.hid hs6.1
        have HS6 := Lib.hid hs6.2
        have HT6 : Hid (Tab w6) := Lib.hid (HT5.out.below (hs6.2.below HKF.out HZ5.out) HT.out.lt)
        have HZ6 : Hid (w.heap.size ≤ w6.heap.size) := Lib.hid (Nat.le_trans HZ5.out hs6.2.size)
        clear hs6
        go_wp2_with fail
        refine (o_Next K q m w6 HA6.out HT6.out).mono ?_
        rintro e w' ⟨nx, rfl, rfl⟩
        go_wp2_with fail
        refine (o_Free K q m w6 HA6.out (nx : Int)).mono ?_
        rintro e w7 ⟨e7, rfl, hs7⟩
        have HA7 := Lib.hid hs7.1
        have HS7 := Lib.hid (HS6.out.trans hs7.2)
        have HT7 : Hid (Tab w7) := Lib.hid (HT6.out.below (hs7.2.below HKF.out HZ6.out) HT.out.lt)
        clear hs7
        go_wp2_with fail
        refine (o_Next K q m w7 HA7.out HT7.out).mono ?_
        rintro e w' ⟨ny, rfl, rfl⟩
        go_wp2_with fail
        refine (o_Set K q m w7 HA7.out (ny : Int)).mono ?_
        rintro e w8 ⟨e8, rfl, hs8⟩
        have HM8 := Lib.hid (HK.out w8 (HS7.out.trans hs8.2))
        clear hs8
        go_wp2_with fail
        go_roundw
        case rel => exact ⟨i + 1, q', by omega, by omega, by go_num, rfl, HM8⟩
        case measure => simp [intOf]; omega
      · have B1 : ((i : Int) == (n : Int) / 2) = false := by rw [beq_eq_false_iff_ne]; omega
        clear hmid
        go_wp2_with fail
        go_roundw
        case rel => exact ⟨i + 1, q, by omega, by omega, by go_num, rfl, Lib.hid ⟨L', H4.out, HB4.out⟩⟩
        case measure => simp [intOf]; omega
    · have g2 : decide ((i : Int) < (n : Int)) = false := by rw [decide_eq_false_iff_not]; omega
      obtain ⟨L, h1, hb⟩ := HMI.out
      have HSA := Lib.hid (same_any _ q r m L wr h1 (HT.out.below hb HT.out.lt) hm)
      have HB1 := Lib.hid hb
      clear h1 hb HMI
      go_wp2_with fail
      refine HSA.out.mono ?_
      rintro e w4 ⟨rfl, hb4⟩
      have HB4 := Lib.hid (HB1.out.trans (hb4.mono HB1.out.size))
      clear hb4
      go_wp2_with fail
      go_ret
      exact ⟨rfl, HB4.out⟩
    · have g2 : decide ((i : Int) < (n : Int)) = true := by rw [decide_eq_true_iff]; omega
      have g3 : decide ((i : Int) < 400) = false := by rw [decide_eq_false_iff_not]; omega
      obtain ⟨L, h1, hb⟩ := HMI.out
      have HSA := Lib.hid (same_any _ q r m L wr h1 (HT.out.below hb HT.out.lt) hm)
      have HB1 := Lib.hid hb
      clear h1 hb HMI
      go_wp2_with fail
      refine HSA.out.mono ?_
      rintro e w4 ⟨rfl, hb4⟩
      have HB4 := Lib.hid (HB1.out.trans (hb4.mono HB1.out.size))
      clear hb4
      go_wp2_with fail
      go_ret
      exact ⟨rfl, HB4.out⟩
theorem law_Does (words : Int) (A : Option Addr) (n c : Nat) (w : World) (hT : Tab w) (_hw : -9223372036854775808 ≤ words ∧ words ≤ 9223372036854775807) (hS : Script w A n) (hn : n ≤ 9223372036854775807) :
    Calls Tryd.prog 3 #[.int .i64 words, .slice A n c] w (YesMade true w) := by
  by_cases h1 : 2 ≤ words ∧ words ≤ 8192
  · have h3 := does_walk words.toNat A n c w hT (by omega) hS hn
    rw [Int.toNat_of_nonneg (by omega)] at h3
    exact h3
  · by_cases h2 : 8192 < words ∧ words ≤ 65536
    · exact does_great words A n c w hT h2
    · exact does_nil words A n c w hT (by omega)
end Go.Proofs.YtbmkjlpjgkfjcaaDoor
