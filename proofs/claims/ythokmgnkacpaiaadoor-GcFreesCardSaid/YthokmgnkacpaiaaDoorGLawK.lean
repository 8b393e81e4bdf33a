/-
  The walk of the law GcKeeps: whatever the input, it returns true and leaves what was there as it was. Condition: the table of math/bits holds what its initialiser lays.
-/
import Derived.Test.YthokmgnkacpaiaaDoorGCycle
namespace Go.Proofs.YthokmgnkacpaiaaDoor
open Go.RowKit
set_option maxHeartbeats 1000000 in
set_option maxRecDepth 100000 in
theorem keeps_great (words : Int) (A1 A2 A3 : Option Addr) (n1 c1 n2 c2 n3 c3 : Nat) (w : World) (hT : Tab w) (h : 2048 < words ∨ 1000 < n2) :
    Calls Tryd.prog 6 #[.int .i64 words, .slice A1 n1 c1, .slice A2 n2 c2, .slice A3 n3 c3] w (YesMade true w) := by
  have HT := Lib.hid hT
  clear hT
  have HG : Hid (decide (2048 < words) = true ∨ (decide (2048 < words) = false ∧ decide (1000 < n2) = true ∧ decide (1000 < (n2 : Int)) = true)) := by
    refine Lib.hid ?_
    by_cases h1 : 2048 < words
    · exact .inl (decide_eq_true h1)
    · exact .inr ⟨decide_eq_false h1, decide_eq_true (by omega), decide_eq_true (by omega)⟩
  clear h
  rcases HG.out with g1 | ⟨g1, g2, g3⟩
  all_goals
    clear HG
    go_enter Tryd.func6, Tryd.ntmps6
    go_wp2_with fail
    refine (awake3_any _ HT.out).mono ?_
    rintro e w1 ⟨rfl, hb⟩
    have HB := Lib.hid hb
    clear hb
    go_wp2_with fail
    go_ret
    exact ⟨rfl, HB.out⟩
set_option maxRecDepth 100000 in
theorem keeps_nil (words : Int) (A1 A2 A3 : Option Addr) (n1 c1 n2 c2 n3 c3 : Nat) (w : World) (hT : Tab w) (h : words < 2) (h2 : n2 ≤ 1000) :
    Calls Tryd.prog 6 #[.int .i64 words, .slice A1 n1 c1, .slice A2 n2 c2, .slice A3 n3 c3] w (YesMade true w) := by
  have HT := Lib.hid hT
  clear hT
  have g1 : decide (2048 < words) = false := decide_eq_false (by omega)
  have g2 : decide (1000 < n2) = false := decide_eq_false (by omega)
  have g3 : decide (1000 < (n2 : Int)) = false := decide_eq_false (by omega)
  go_enter Tryd.func6, Tryd.ntmps6
  go_wp2_with fail
  refine (awake3_any _ HT.out).mono ?_
  rintro e w1 ⟨rfl, hb⟩
  have HB := Lib.hid hb
  clear hb
  go_wp2_with fail
  refine (both_nil words A1 n1 c1 _ (.inl h)).mono ?_
  rintro e w' ⟨rfl, rfl⟩
  go_wp2_with fail
  go_ret
  exact ⟨rfl, HB.out⟩
def kindN (L : List Ob) (a : Nat) : Nat := match findOb L a with
  | some o => o.kind
  | none => 0
theorem kindN_of {L : List Ob} {a : Nat} (h : IsIn L a) : hKind L (a : Int) = (kindN L a, 0) := by
  obtain ⟨o, ho⟩ := isIn_some h
  rw [hKind_at ho]
  unfold kindN
  rw [ho]
theorem kindN_same {L M : List Ob} {a : Nat} (h : kindOf M a = kindOf L a) : kindN M a = kindN L a := by
  unfold kindOf at h
  unfold kindN
  cases h1 : findOb M a <;> cases h2 : findOb L a <;> rw [h1, h2] at h <;> simp_all
theorem map_take_snoc {l : List Nat} {i : Nat} (f : Nat → Nat) (h : i < l.length) : (l.take i).map f ++ [f (l.getD i 0)] = (l.take (i + 1)).map f := by
  rw [take_snoc_get h, List.map_append]; rfl
theorem WordsAt.lift {w w' : World} {V F : Nat → Prop} {A : Option Addr} {n : Nat} {xs : List Nat} (h : WordsAt w V A n xs) (hb : Below w.heap.size w w') (hF : ∀ b, b < w.heap.size → F b) : WordsAt w' F A n xs :=
  ⟨h.1, h.2.1, fun i hi => by
    obtain ⟨b, off, e1, e2, _, e4⟩ := h.2.2 i hi
    exact ⟨b, off, e1, Nat.lt_of_lt_of_le e2 hb.size, hF b e2, (hb.cell (p := ⟨b, off + i, none⟩) e2).trans e4⟩⟩
theorem Script3.lift {w w' : World} {V F : Nat → Prop} {A : Option Addr} {n : Nat} (h : Script3 w V A n) (hb : Below w.heap.size w w') (hF : ∀ b, b < w.heap.size → F b) : Script3 w' F A n := fun i hi => by
  obtain ⟨s, b, off, h1, h2, h3, e0, e1, e2, e3, e4, h4, h5, h6⟩ := h i hi
  refine ⟨s, b, off, h1, Nat.lt_of_lt_of_le h2 hb.size, hF b h2, ?_, ?_, ?_, ?_, ?_, h4, h5.lift hb hF, h6⟩
  · rw [hb.cell (p := ⟨b, _, none⟩) h2]; exact e0
  · rw [hb.cell (p := ⟨b, _, none⟩) h2]; exact e1
  · rw [hb.cell (p := ⟨b, _, none⟩) h2]; exact e2
  · rw [hb.cell (p := ⟨b, _, none⟩) h2]; exact e3
  · rw [hb.cell (p := ⟨b, _, none⟩) h2]; exact e4
theorem IntRow.keep2 {w w' : World} {S : Nat → Prop} {v : Value} {l : List Nat} (h : IntRow w S v l) (hk : ∀ b, v.ownBlock = some b → b < w.heap.size → w'.heap[b]? = w.heap[b]?) : IntRow w' S v l :=
  ⟨own_keep h.1 fun b hb => hk b hb (World.ownsRow.lt h.1 b hb).2, h.2⟩
/-- What the law has laid up ahead of the cycle: the heap, and two rows. -/
structure Ahead (q m : Nat) (w w4 : World) (L : List Ob) (vh : Value) (held : List Nat) (vk : Value) (kinds : List Nat) : Prop where
  heap : ∃ S, HAt w4 q S m L ∧ (∀ b, S b → ¬ b < w.heap.size) ∧ (∀ b, S b → vh.ownBlock ≠ some b) ∧ ∀ b, S b → vk.ownBlock ≠ some b
  below : Below w.heap.size w w4
  held : IntRow w4 (From w.heap.size) vh held
  kinds : IntRow w4 (From w.heap.size) vk kinds
def FAhead (w : World) (vh vk : Value) (b : Nat) : Prop := b < w.heap.size ∨ vh.ownBlock = some b ∨ vk.ownBlock = some b
theorem Ahead.new {q m : Nat} {w w4 : World} {L : List Ob} {vh vk : Value} {held kinds : List Nat} (h : Ahead q m w w4 L vh held vk kinds) (hm : m ≤ 65536) : Calls Tryd.prog 23 #[.pointer (some ⟨q, 0, none⟩)] w4 (VNew (FAhead w vh vk) q m L w4) := by
  obtain ⟨S, h1, h2, h3, h4⟩ := h.heap
  refine v_New _ q m S L w4 h1 hm (fun b hS hF => ?_) (fun b hF => ?_)
  · rcases hF with hF | hF | hF
    · exact h2 b hS hF
    · exact h3 b hS hF
    · exact h4 b hS hF
  · rcases hF with hF | hF | hF
    · exact Nat.lt_of_lt_of_le hF h.below.size
    · exact (World.ownsRow.lt h.held.1 b hF).2
    · exact (World.ownsRow.lt h.kinds.1 b hF).2
set_option maxHeartbeats 4000000 in
set_option maxRecDepth 100000 in
theorem keeps_walk (m : Nat) (A1 A2 A3 : Option Addr) (n1 c1 n2 c2 n3 c3 : Nat) (rs : List Nat) (w : World) (hT : Tab w) (h : 2 ≤ m ∧ m ≤ 2048) (h2 : n2 ≤ 1000)
    (hS1 : Script3 w (fun b => b < w.heap.size) A1 n1) (hn1 : n1 ≤ 9223372036854775807) (hR : WordsAt w (fun b => b < w.heap.size) A2 n2 rs) (hS3 : Script3 w (fun b => b < w.heap.size) A3 n3) (hn3 : n3 ≤ 9223372036854775807) :
    Calls Tryd.prog 6 #[.int .i64 (m : Int), .slice A1 n1 c1, .slice A2 n2 c2, .slice A3 n3 c3] w (YesMade true w) := by
  obtain ⟨i0, hi0, hz0, hz1, hz2⟩ := info_parts infoInt
  have HT := Lib.hid hT
  have HS1 := Lib.hid hS1
  have HS3 := Lib.hid hS3
  have HR := Lib.hid hR
  have g1 : decide (2048 < (m : Int)) = false := decide_eq_false (by omega)
  have g2 : decide (1000 < n2) = false := decide_eq_false (by omega)
  have g3 : decide (1000 < (n2 : Int)) = false := decide_eq_false (by omega)
  clear hT hS1 hS3 hR
  go_enter Tryd.func6, Tryd.ntmps6
  go_wp2_with fail
  refine (awake3_any _ HT.out).mono ?_
  rintro e w1 ⟨rfl, hb⟩
  have HB := Lib.hid hb
  clear hb
  go_wp2_with fail
  refine (both_any m A1 n1 c1 w1 ⟨h.1, by omega⟩ (HS1.out.below HB.out) hn1).mono ?_
  rintro e w2 ⟨q, r, rfl, hm2⟩
  have HM := Lib.hid (mid_back HB.out hm2)
  clear hm2 HB
  obtain ⟨L, ⟨S, T, t1, t2, t3, t4, t5, t6, t7⟩, hb2⟩ := HM.out
  have HB2 := Lib.hid hb2
  have HH := Lib.hid t1.bound
  have HS4 := Lib.hid t4
  have HL := Lib.hid t1.lies
  have HCL := Lib.hid (closure_any r T m L A2 n2 c2 rs (fun b => b < w.heap.size) w2 t2 t1.lies (by omega) (HR.out.lift hb2 (fun b hb => hb)) h2 t1.vals)
  clear t1 t2 t3 t4 t5 t6 t7 hb2 HM
  go_wp2_with fail
  refine HCL.out.mono ?_
  rintro e w3 ⟨vh, held, rfl, hgr, hnd, hhl, hmem⟩
  have HHD := Lib.hid hgr
  have HME := Lib.hid hmem
  clear hgr hnd hmem HCL
  obtain ⟨Ah, ch, rfl, hsn⟩ := HHD.out.1.seen
  have HSN := Lib.hid hsn
  clear hsn
  have HG0 : Hid (Grows w3.heap.size w3 (w3.alloc (.cells #[] 3)) (.slice (some ⟨w3.heap.size, 0, none⟩) 0 0) ((held.take 0).map (kindN L))) := Lib.hid ⟨⟨⟨rfl, .inr ⟨w3.heap.size, 0, #[], rfl, Nat.zero_le _, heap_alloc_new w3 _, Nat.le_refl _, by unfold maxLen; decide, rfl, rfl⟩⟩, fun g hg => by have := Option.some.inj hg; exact Nat.le_of_eq this⟩, below_one _, by simp⟩
  go_wp2_with fail
  go_loopw [46, 12] (fun vi vv wr => ∃ (i : Nat) (v : Value), i ≤ held.length ∧ vi = .int .i64 i ∧ v = vv ∧ Hid (Grows w3.heap.size w3 wr v ((held.take i).map (kindN L)))) (fun vi _ _ => held.length - (intOf vi).toNat)
  case atStart => exact ⟨0, _, by omega, by go_num, rfl, HG0⟩
  case round =>
    obtain ⟨i, vk, hi, rfl, rfl, HG⟩ := hrel
    clear HG0
    by_cases hil : i < held.length
    · have g4 : decide ((i : Int) < (held.length : Int)) = true := decide_eq_true (by omega)
      have g4' : decide (i < held.length) = true := decide_eq_true hil
      obtain ⟨b, rfl, hbl, kb0⟩ := HSN.out i hil
      have kb := (HG.out.2.1.cell (p := ⟨b, i, none⟩) hbl).trans kb0
      have hbr : b < wr.heap.size := Nat.lt_of_lt_of_le hbl HG.out.2.1.size
      have hin : IsIn L (held.getD i 0) := ((HME.out _).1 (getD_mem hil)).isIn
      have hkd := g_Kind q _ m L wr ((HH.out.below HHD.out.2.1).below HG.out.2.1) (held.getD i 0 : Nat)
      rw [kindN_of hin] at hkd
      have HKD := Lib.hid hkd
      have HMT := Lib.hid (map_take_snoc (kindN L) hil)
      have hlk : ((held.take i).map (kindN L)).length = i := by simp; omega
      have HLK := Lib.hid hlk
      clear hkd hin kb0 hlk
      generalize kindN L (held.getD i 0) = kd at *
      generalize held.getD i 0 = x at *
      have hown : Hid ((wr.alloc (.cells #[.int .i64 (kd : Int)] 3)).ownsRow 0 3 1 vk i (nums .i64 ((held.take i).map (kindN L)))) := Lib.hid (by
        have := HG.out.1.1.alloc (.cells #[.int .i64 (kd : Int)] 3)
        rw [HLK.out] at this
        exact this)
      have hsrc := Lib.hid (one_src wr kd)
      have hone := Lib.hid (one_cell kd)
      go_wp2_with fail
      refine HKD.out.mono ?_
      rintro e w' ⟨rfl, rfl⟩
      go_wp2_with (at_builtin; refine wpList_append_own_at _ rfl (.tmp 58) (.tmp 60) 61 rfl 0 3 i0 _ 1 8 Tryd.underlying61 hi0 hz0 hz1 hz2 rfl (by decide) _ _ _ rfl hown.out ⟨wr.heap.size, 0, none⟩ 1 1 [.int .i64 (kd : Int)] rfl rfl hsrc.out hone.out (by unfold maxLen; omega) (by omega) (Nat.zero_le _) ?_)
      intro v1 w6 hown1 hgr1 hnn1 hat1
      have HG1 : Hid (Grows w3.heap.size w3 w6 v1 ((held.take (i + 1)).map (kindN L))) := Lib.hid (by
        rw [← HMT.out]
        exact HG.out.push (by rw [HLK.out, List.map_take]; exact hown1) hgr1 (by simpa using hat1))
      clear hown1 hgr1 hnn1 hat1 hown hsrc hone
      go_wp2_with fail
      go_roundw
      case rel => exact ⟨i + 1, _, by omega, by go_num, rfl, HG1⟩
      case measure => simp [intOf]; omega
    · have g4 : decide ((i : Int) < (held.length : Int)) = false := decide_eq_false (by omega)
      have g4' : decide (i < held.length) = false := decide_eq_false hil
      obtain rfl : i = held.length := by omega
      have HAH : Hid (Ahead q m w wr L (.slice Ah held.length ch) held vk (held.map (kindN L))) := Lib.hid (by
        have hz2 := HB2.out.size
        have hz3 := HHD.out.2.1.size
        have hz4 := HG.out.2.1.size
        refine ⟨⟨_, (HH.out.below HHD.out.2.1).below HG.out.2.1, fun b hS => HS4.out b hS.1, fun b hS he => ?_, fun b hS he => ?_⟩, (HB2.out.trans (HHD.out.2.1.mono hz2)).trans (HG.out.2.1.mono (Nat.le_trans hz2 hz3)), ?_, ?_⟩
        · have : w2.heap.size ≤ b := HHD.out.1.2 b he
          have := hS.2; omega
        · have : w3.heap.size ≤ b := HG.out.1.2 b he
          have := hS.2; omega
        · exact ⟨own_keep HHD.out.1.1 fun b hb => HG.out.2.1.block b (World.ownsRow.lt HHD.out.1.1 b hb).2, fun b hb => Nat.le_trans hz2 (HHD.out.1.2 b hb)⟩
        · have h3 := HG.out.1
          rw [List.take_length] at h3
          exact ⟨h3.1, fun b hb => Nat.le_trans (Nat.le_trans hz2 hz3) (h3.2 b hb)⟩)
      have HNW := Lib.hid (HAH.out.new (by omega))
      clear HG HSN HHD HH HS4 HB2 hil hi
      obtain ⟨Ak, ck, hvk, _⟩ := HAH.out.kinds.seen
      have hvl : (held.map (kindN L)).length = held.length := by simp
      rw [hvl] at hvk
      subst hvk
      clear hvl
      go_wp2_with fail
      refine HNW.out.mono ?_
      rintro e w5 ⟨g, rfl, h5, hb5⟩
      have HB5 : Hid (Below w.heap.size w w5) := Lib.hid (HAH.out.below.trans (hb5.mono HAH.out.below.size))
      have HR1 : Hid (IntRow w5 (From w.heap.size) (.slice Ah held.length ch) held) := Lib.hid (HAH.out.held.keep2 fun b _ hl => hb5.block b hl)
      have HR2 : Hid (IntRow w5 (From w.heap.size) (.slice Ak held.length ck) (held.map (kindN L))) := Lib.hid (HAH.out.kinds.keep2 fun b _ hl => hb5.block b hl)
      have HCY := Lib.hid (cycle_any _ g q m _ w5 h5 rfl (HT.out.below HB5.out HT.out.lt) (.inl HT.out.lt) A2 n2 c2 rs (HR.out.lift HB5.out (fun b hb => .inl hb)) h2 A3 n3 c3 (HS3.out.lift HB5.out (fun b hb => .inl hb)) hn3)
      clear h5 hb5 HAH HNW
      go_wp2_with fail
      refine HCY.out.mono ?_
      rintro e w6 ⟨v2, D, t, rfl, hcs, hki, hph, hDl⟩
      obtain ⟨A2', c2', rfl, hsd⟩ := hcs.2.1.seen
      have HSD := Lib.hid hsd
      have HGI := Lib.hid hcs.1
      have HKI := Lib.hid hki
      have hkeepF : ∀ b, FAhead w (.slice Ah held.length ch) (.slice Ak held.length ck) b → b < w5.heap.size → w6.heap[b]? = w5.heap[b]? := fun b hF hl => hcs.2.2.1.block b hl fun hn => hn hF
      obtain ⟨_, _, he1, hs1⟩ := (HR1.out.keep2 (w' := w6) fun b hb hl => hkeepF b (.inr (.inl hb)) hl).seen
      obtain ⟨rfl, hx1, rfl⟩ := Value.slice.inj he1
      obtain ⟨_, _, he2, hs2⟩ := (HR2.out.keep2 (w' := w6) fun b hb hl => hkeepF b (.inr (.inr hb)) hl).seen
      obtain ⟨rfl, hx2, rfl⟩ := Value.slice.inj he2
      have HSH := Lib.hid hs1
      have HSK := Lib.hid hs2
      have HB6 : Hid (Below w.heap.size w w6) := Lib.hid (HB5.out.trans (hcs.2.2.1.below (fun b hb => .inl hb) HB5.out.size))
      clear hcs hki hph hsd hkeepF he1 he2 hs1 hs2 hx1 hx2 HR1 HR2 HCY
      go_wp2_with fail
      go_loop [70] (fun vi => ∃ i : Nat, i ≤ held.length ∧ vi = .int .i64 i) (fun vi => held.length - (intOf vi).toNat)
      case atStart => exact ⟨0, by omega, by go_num⟩
      case round =>
        obtain ⟨i, hi, rfl⟩ := hrel
        by_cases hil : i < held.length
        · have g4 : decide ((i : Int) < (held.length : Int)) = true := decide_eq_true (by omega)
          have g4' : decide (i < held.length) = true := decide_eq_true hil
          obtain ⟨b, rfl, hbl, kb⟩ := HSH.out i hil
          obtain ⟨b2, rfl, hbl2, kb2⟩ := HSK.out i (by simp; exact hil)
          have hmr := (HME.out _).1 (getD_mem hil)
          have hkd := v_Kind _ g q m t _ HGI.out (held.getD i 0 : Nat)
          rw [kindN_of (HKI.out.isin _ (.inl hmr)), kindN_same (HKI.out.kind _ hmr)] at hkd
          have HKD := Lib.hid hkd
          have hkk : (held.map (kindN L)).getD i 0 = kindN L (held.getD i 0) := by
            simp only [List.getD_eq_getElem?_getD, List.getElem?_map, List.getElem?_eq_getElem hil]
            rfl
          rw [hkk] at kb2
          clear hkd hmr hkk
          generalize kindN L (held.getD i 0) = kd at *
          generalize held.getD i 0 = x at *
          have B1 : ((kd : Int) != (kd : Int)) = false := by simp
          go_wp2_with fail
          refine HKD.out.mono ?_
          rintro e w' ⟨rfl, rfl⟩
          go_wp2_with fail
          go_round
          case rel => exact ⟨i + 1, by omega, by go_num⟩
          case measure => simp [intOf]; omega
        · have g4 : decide ((i : Int) < (held.length : Int)) = false := decide_eq_false (by omega)
          have g4' : decide (i < held.length) = false := decide_eq_false hil
          clear hil hi
          go_wp2_with fail
          go_loop [95] (fun vi => ∃ i : Nat, i ≤ D.length ∧ vi = .int .i64 i) (fun vi => D.length - (intOf vi).toNat)
          case atStart => exact ⟨0, by omega, by go_num⟩
          case round =>
            obtain ⟨j, hj, rfl⟩ := hrel
            by_cases hjl : j < D.length
            · have g5 : decide ((j : Int) < (D.length : Int)) = true := decide_eq_true (by omega)
              have g5' : decide (j < D.length) = true := decide_eq_true hjl
              obtain ⟨b, rfl, hbl, kb⟩ := HSD.out j hjl
              have hkd := v_Kind _ g q m t _ HGI.out (D.getD j 0 : Nat)
              rw [kindN_of (HKI.out.isin _ (.inr (getD_mem hjl)))] at hkd
              have HKD := Lib.hid hkd
              clear hkd
              generalize kindN t.L (D.getD j 0) = kd at *
              generalize D.getD j 0 = x at *
              go_wp2_with fail
              refine HKD.out.mono ?_
              rintro e w' ⟨rfl, rfl⟩
              go_wp2_with fail
              go_round
              case rel => exact ⟨j + 1, by omega, by go_num⟩
              case measure => simp [intOf]; omega
            · have g5 : decide ((j : Int) < (D.length : Int)) = false := decide_eq_false (by omega)
              have g5' : decide (j < D.length) = false := decide_eq_false hjl
              go_wp2_with fail
              go_ret
              exact ⟨rfl, HB6.out⟩
theorem law_Keeps (words : Int) (A1 : Option Addr) (n1 c1 : Nat) (A2 : Option Addr) (n2 c2 : Nat) (A3 : Option Addr) (n3 c3 : Nat) (rs : List Nat) (w : World) (hT : Tab w) (_hw : -9223372036854775808 ≤ words ∧ words ≤ 9223372036854775807)
    (hS1 : Script3 w (fun b => b < w.heap.size) A1 n1) (hn1 : n1 ≤ 9223372036854775807) (hR : WordsAt w (fun b => b < w.heap.size) A2 n2 rs) (_hn2 : n2 ≤ 9223372036854775807) (hS3 : Script3 w (fun b => b < w.heap.size) A3 n3) (hn3 : n3 ≤ 9223372036854775807) :
    Calls Tryd.prog 6 #[.int .i64 words, .slice A1 n1 c1, .slice A2 n2 c2, .slice A3 n3 c3] w (YesMade true w) := by
  by_cases h1 : 2048 < words ∨ 1000 < n2
  · exact keeps_great words A1 A2 A3 n1 c1 n2 c2 n3 c3 w hT h1
  · by_cases h2 : words < 2
    · exact keeps_nil words A1 A2 A3 n1 c1 n2 c2 n3 c3 w hT h2 (by omega)
    · have h3 := keeps_walk words.toNat A1 A2 A3 n1 c1 n2 c2 n3 c3 rs w hT (by omega) (by omega) hS1 hn1 hR hS3 hn3
      rw [Int.toNat_of_nonneg (by omega)] at h3
      exact h3
end Go.Proofs.YthokmgnkacpaiaaDoor
