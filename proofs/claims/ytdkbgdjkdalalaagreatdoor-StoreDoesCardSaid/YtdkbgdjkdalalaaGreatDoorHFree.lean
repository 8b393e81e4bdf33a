/-
  The walks of Free and Alloc, in memory.
-/
import Derived.Test.YtdkbgdjkdalalaaGreatDoorHMem
namespace Go.Proofs.YtdkbgdjkdalalaaGreatDoor
open Go.RowKit
/-- A call that turned the heap at Y into one with these words, marks and free runs; nothing else. -/
def MemStep (Y : Lay) (cs ms : List Nat) (rs : List (Nat × Nat)) (w w' : World) : Prop :=
  ∃ Y' : Lay, Y'.hb = Y.hb ∧ Mem w' Y' cs ms rs ∧ Turned Y.own w w' ∧ ∀ b, Y'.own b → Y.own b ∨ w.heap.size ≤ b
def FreeStep (Y : Lay) (cs ms : List Nat) (rs : List (Nat × Nat)) (w w' : World) : Prop :=
  ∃ g' k', Mem w' { Y with fb := g', kf := k' } cs ms rs ∧ Turned Y.own w w' ∧ (g' = Y.fb ∨ w.heap.size ≤ g')
theorem FreeStep.step {Y : Lay} {cs ms : List Nat} {rs : List (Nat × Nat)} {w w' : World} (h : FreeStep Y cs ms rs w w') : MemStep Y cs ms rs w w' := by
  obtain ⟨g', k', h1, h2, h3⟩ := h
  refine ⟨{ Y with fb := g', kf := k' }, rfl, h1, h2, ?_⟩
  rintro b (e | e | e | e)
  · exact .inl (.inl e)
  · exact .inl (.inr (.inl e))
  · exact .inl (.inr (.inr (.inl e)))
  · rcases h3 with h3 | h3
    · exact .inl (.inr (.inr (.inr (e.trans h3))))
    · exact .inr (by rw [e]; exact h3)
theorem MemStep.after {Y : Lay} {cs ms : List Nat} {rs : List (Nat × Nat)} {a b c : World} (h : MemStep Y cs ms rs b c) (ht : Turned Y.own a b) : MemStep Y cs ms rs a c := by
  obtain ⟨Y', h1, h2, h3, h4⟩ := h
  exact ⟨Y', h1, h2, ht.trans h3, fun i hi => by rcases h4 i hi with h | h; exact .inl h; exact .inr (Nat.le_trans ht.size h)⟩
theorem Mem.free {w w' : World} {Y : Lay} {cs ms : List Nat} {rs rs' : List (Nat × Nat)} (h : Mem w Y cs ms rs)
    (hf : FreeAfter Y.hb Y.fb (.slice (some ⟨Y.cb, 0, none⟩) cs.length Y.kc) (.slice (some ⟨Y.mb, 0, none⟩) ms.length Y.km) rs' w w') : FreeStep Y cs ms rs' w w' := by
  obtain ⟨g', k', h1, h2, h3, h4⟩ := hf
  obtain ⟨n1, n2, n3, n4, n5, n6⟩ := h.ne
  refine ⟨g', k', ⟨h1, h.words.keep (h3.block _ h.words.lt ?_), h.marks.keep (h3.block _ h.marks.lt ?_), h2⟩, h3.mono ?_, h4⟩
  · rintro (e | e)
    · exact n1 e.symm
    · exact n5 e
  · rintro (e | e)
    · exact n2 e.symm
    · exact n6 e
  · rintro i (e | e)
    · exact .inl e
    · exact .inr (.inr (.inr e))
theorem Mem.remark {w w' : World} {Y : Lay} {cs ms ms' : List Nat} {rs : List (Nat × Nat)} (h : Mem w Y cs ms rs) (hl : ms'.length = ms.length) (hw : Words w' 32 Y.mb Y.km ms') (hg : w.grownBy w' (some Y.mb)) : Mem w' Y cs ms' rs ∧ Turned Y.own w w' := by
  obtain ⟨n1, n2, n3, n4, n5, n6⟩ := h.ne
  refine ⟨⟨?_, h.words.keep (hg.block _ h.words.lt (fun e => n4 (Option.some.inj e))), hw, h.runs.keep (hg.block _ h.runs.lt (fun e => n6 (Option.some.inj e).symm))⟩, (Turned.of_grown hg).mono ?_⟩
  · rw [hl]
    exact h.head.keep (hg.block _ h.head.lt (fun e => n2 (Option.some.inj e)))
  · rintro i rfl
    exact .inr (.inr (.inl rfl))
theorem Mem.store {w : World} {Y : Lay} {cs ms : List Nat} {rs : List (Nat × Nat)} (h : Mem w Y cs ms rs) (i x : Nat) : Mem (w.setCell ⟨Y.cb, i, none⟩ (.int .u64 (x : Int))) Y (cs.set i x) ms rs ∧ Turned Y.own w (w.setCell ⟨Y.cb, i, none⟩ (.int .u64 (x : Int))) := by
  obtain ⟨n1, n2, n3, n4, n5, n6⟩ := h.ne
  refine ⟨⟨?_, (h.words.set i x).1, h.marks.keep (Below.heap_setCell _ _ _ _ (fun e => n4 e.symm)), h.runs.keep (Below.heap_setCell _ _ _ _ (fun e => n5 e.symm))⟩, (Turned.refl _ _).setCell _ _ (.inr (.inl rfl))⟩
  rw [List.length_set]
  exact h.head.keep (Below.heap_setCell _ _ _ _ n1)
theorem free_no (Y : Lay) (cs ms : List Nat) (rs : List (Nat × Nat)) (a : Int) (w : World) (hm : Mem w Y cs ms rs) (hs : Small ms) (hml : ms.length = (cs.length + 63) / 64) (hcl : cs.length ≤ 65536) (h : ¬ Holds cs ms a) :
    Calls Tryz.prog 102 #[.pointer (some ⟨Y.hb, 0, none⟩), .int .i64 a] w (OneSame 7 w) := by
  have HC := Lib.hid (holds_no Y cs ms rs a w hm hs hml hcl h)
  clear hm
  go_enter Tryz.func102, Tryz.ntmps102
  go_wp2_with fail
  refine HC.out.mono ?_
  rintro e w' ⟨rfl, rfl⟩
  go_wp2_with fail
  go_ret
  exact ⟨rfl, rfl⟩
def FreeDone (Y : Lay) (cs ms : List Nat) (rs : List (Nat × Nat)) (w : World) (e : Ending) (w' : World) : Prop := e = .returned (.int .i64 0) ∧ MemStep Y cs ms rs w w'
set_option maxHeartbeats 1000000 in
theorem free_ok (Y : Lay) (cs ms : List Nat) (rs : List (Nat × Nat)) (a n : Nat) (w : World) (hm : Mem w Y cs ms rs) (hs : Small ms) (hml : ms.length = (cs.length + 63) / 64) (hcl : cs.length ≤ 65536) (h0 : 0 < a) (hmk : Marked ms a = true) (hh : cs.getD a 0 / 8 = n) (hfit : a + 1 + n ≤ cs.length)
    (hri : Rising rs) (hrl : rs.length ≤ 64000) (hrw : Within rs) :
    Calls Tryz.prog 102 #[.pointer (some ⟨Y.hb, 0, none⟩), .int .i64 (a : Int)] w (FreeDone Y cs (removeMark ms a) (giveRuns rs a (n + 1)) w) := by
  have HC := Lib.hid (holds_yes Y cs ms rs a w hm hs hml hcl h0 (by omega) hmk)
  have c1 := hm.head.cell1
  have HR := Lib.hid (remove_any Y.mb Y.km a ms w hm.marks (by omega) (by omega) (hs _))
  have HM := Lib.hid hm
  have hcl2 : a + 1 + n ≤ 65536 := by omega
  have HX := Lib.hid hh
  have HRI := Lib.hid hri
  have HRW := Lib.hid hrw
  clear hm hh hri hrw hml hmk hs
  go_enter Tryz.func102, Tryz.ntmps102
  go_wp2_with fail
  refine HC.out.mono ?_
  rintro e w' ⟨rfl, rfl⟩
  go_wp2_with fail
  refine HR.out.mono ?_
  rintro e w1 ⟨rfl, hw1, hg1⟩
  obtain ⟨hm1, ht1⟩ := HM.out.remark (removeMark_len ms a) hw1 hg1
  have HF : Hid (∀ W : World, W.heap = w1.heap → Calls Tryz.prog 86 #[.pointer (some ⟨Y.hb, 0, none⟩), .int .i64 (a : Int)] W (FieldsSame Y a n W)) := Lib.hid fun W hW => fields_any Y cs (removeMark ms a) rs a n W (hm1.keep (fun b _ => by rw [hW])) hcl HX.out hfit
  have HG : Hid (∀ W : World, W.heap = w1.heap → Calls Tryz.prog 106 #[.pointer (some ⟨Y.hb, 2, none⟩), .agg #[.int .i64 (a : Int), .int .i64 ((n : Int) + 1)]] W fun e w' => e = .returned (.tuple #[]) ∧ FreeAfter Y.hb Y.fb (.slice (some ⟨Y.cb, 0, none⟩) cs.length Y.kc) (.slice (some ⟨Y.mb, 0, none⟩) (removeMark ms a).length Y.km) (giveRuns rs a (n + 1)) W w') := Lib.hid fun W hW => by
    have h := give_any Y.hb Y.fb Y.kf a (n + 1) _ _ rs W (hm1.head.keep (by rw [hW])) (hm1.runs.keep (by rw [hW])) HRI.out hrl HRW.out (by omega)
    rw [show ((n + 1 : Nat) : Int) = (n : Int) + 1 by omega] at h
    exact h
  have HM1 := Lib.hid hm1
  have HT1 := Lib.hid ht1
  clear hw1 hg1 hm1 ht1
  have hwn : IntKind.i64.wrap ((n : Int) + 1) = (n : Int) + 1 := by rw [IntKind.wrap_i64]; omega
  go_wp2_with fail
  go_region_with (first | (go_at_call 86; refine (HF.out _ ?_).mono ?_; rfl; rintro e w' ⟨rfl, rfl⟩) | (go_at_call 106; refine (HG.out _ ?_).mono ?_; rfl; rintro e w2 ⟨rfl, hf2⟩; have HF2 := Lib.hid hf2; clear hf2))
  all_goals
    go_wp2_with fail
    go_ret
    exact ⟨rfl, (HM1.out.drew.free HF2.out).step.after HT1.out.drew⟩
/-- Words, with ones from cell a on, n of them. -/
def onesTo (cs : List Nat) (a : Nat) : Nat → List Nat
  | 0 => cs
  | n + 1 => (onesTo cs a n).set (a + n) 1
theorem onesTo_len (cs : List Nat) (a n : Nat) : (onesTo cs a n).length = cs.length := by
  induction n with
  | zero => rfl
  | succ n ih => simp [onesTo, ih]
theorem onesTo_at (cs : List Nat) (a n i : Nat) (h : a + n ≤ cs.length) : (onesTo cs a n).getD i 0 = if a ≤ i ∧ i < a + n then 1 else cs.getD i 0 := by
  induction n with
  | zero => rw [if_neg (by omega)]; rfl
  | succ n ih =>
    rw [onesTo, getD_set, onesTo_len, ih (by omega)]
    by_cases h1 : a + n = i
    · rw [if_pos ⟨h1, by omega⟩, if_pos (by omega)]
    · rw [if_neg (fun e => h1 e.1)]
      by_cases h2 : a ≤ i ∧ i < a + n
      · rw [if_pos h2, if_pos (by omega)]
      · rw [if_neg h2, if_neg (by omega)]
theorem header_or (n k : Nat) (hn : n ≤ 4096) (hk : k < 8) : bits BinOp.or IntKind.u64 ((n : Int) * 8) (k : Int) = ((n * 8 + k : Nat) : Int) := by
  have h3 := bits_or_u64_nat (n * 8) k (by omega) (by omega)
  rw [show ((n : Int) * 8) = ((n * 8 : Nat) : Int) by omega, h3, Nat.mul_comm, show (8 : Nat) = 2 ^ 3 from rfl, Nat.two_pow_add_eq_or_of_lt (by omega)]
def AllocOut (err : Int) (w : World) (e : Ending) (w' : World) : Prop := e = .returned (.tuple #[.int .i64 0, .int .i64 err]) ∧ Below w.heap.size w w'
theorem alloc_kind (Y : Lay) (k n : Int) (w : World) (h : k < 1 ∨ 6 < k) :
    Calls Tryz.prog 64 #[.pointer (some ⟨Y.hb, 0, none⟩), .int .i64 k, .int .i64 n] w (AllocOut 8 w) := by
  by_cases h1 : k < 1
  · have g0 : decide (k < 1) = true := by rw [decide_eq_true_iff]; omega
    go_enter Tryz.func64, Tryz.ntmps64
    go_wp2_with fail
    go_ret2
    exact ⟨rfl, Below.refl _ _⟩
  · have g0 : decide (k < 1) = false := by rw [decide_eq_false_iff_not]; omega
    have g1 : decide (6 < k) = true := by rw [decide_eq_true_iff]; omega
    clear h
    go_enter Tryz.func64, Tryz.ntmps64
    go_wp2_with fail
    go_ret2
    exact ⟨rfl, Below.refl _ _⟩
theorem alloc_range (Y : Lay) (k n : Int) (w : World) (h : 1 ≤ k ∧ k ≤ 6) (hn : n < 0 ∨ 4096 < n) :
    Calls Tryz.prog 64 #[.pointer (some ⟨Y.hb, 0, none⟩), .int .i64 k, .int .i64 n] w (AllocOut 2 w) := by
  have g0 : decide (k < 1) = false := by rw [decide_eq_false_iff_not]; omega
  have g1 : decide (6 < k) = false := by rw [decide_eq_false_iff_not]; omega
  by_cases h1 : n < 0
  · have g2 : decide (n < 0) = true := by rw [decide_eq_true_iff]; omega
    go_enter Tryz.func64, Tryz.ntmps64
    go_wp2_with fail
    go_ret2
    exact ⟨rfl, Below.refl _ _⟩
  · have g2 : decide (n < 0) = false := by rw [decide_eq_false_iff_not]; omega
    have g3 : decide (4096 < n) = true := by rw [decide_eq_true_iff]; omega
    clear hn
    go_enter Tryz.func64, Tryz.ntmps64
    go_wp2_with fail
    go_ret2
    exact ⟨rfl, Below.refl _ _⟩
def AllocDone (Y : Lay) (a err : Int) (cs ms : List Nat) (rs : List (Nat × Nat)) (w : World) (e : Ending) (w' : World) : Prop := e = .returned (.tuple #[.int .i64 a, .int .i64 err]) ∧ MemStep Y cs ms rs w w'
theorem alloc_full (Y : Lay) (cs ms : List Nat) (rs : List (Nat × Nat)) (k n : Nat) (w : World) (hm : Mem w Y cs ms rs) (hk : 1 ≤ k ∧ k ≤ 6) (hn : n ≤ 4096)
    (hrl : rs.length ≤ 64000) (hrw : Within rs) (hf : takeAddr rs (n + 1) = 0) :
    Calls Tryz.prog 64 #[.pointer (some ⟨Y.hb, 0, none⟩), .int .i64 (k : Int), .int .i64 (n : Int)] w (AllocDone Y 0 6 cs ms (takeRuns rs (n + 1)) w) := by
  have g0 : decide ((k : Int) < 1) = false := by rw [decide_eq_false_iff_not]; omega
  have g1 : decide (6 < (k : Int)) = false := by rw [decide_eq_false_iff_not]; omega
  have g2 : decide ((n : Int) < 0) = false := by rw [decide_eq_false_iff_not]; omega
  have g3 : decide (4096 < (n : Int)) = false := by rw [decide_eq_false_iff_not]; omega
  have ht := take_any Y.hb Y.fb Y.kf (n + 1) _ _ rs w hm.head hm.runs (by omega) hrw
  rw [show ((n + 1 : Nat) : Int) = (n : Int) + 1 by omega] at ht
  have HT := Lib.hid ht
  have HM := Lib.hid hm
  have HF := Lib.hid hf
  clear hm hrw ht hf
  go_enter Tryz.func64, Tryz.ntmps64
  go_wp2_with fail
  refine HT.out.mono ?_
  unfold TakeMade
  rw [HF.out]
  rintro e w1 ⟨rfl, hf⟩
  have HS := Lib.hid (HM.out.free hf).step
  clear hf
  go_wp2_with fail
  go_ret2
  exact ⟨rfl, HS.out⟩
set_option maxHeartbeats 1000000 in
set_option maxRecDepth 100000 in
theorem alloc_ok (Y : Lay) (cs ms : List Nat) (rs : List (Nat × Nat)) (k n a : Nat) (w : World) (hm : Mem w Y cs ms rs) (hs : Small ms) (hml : ms.length = (cs.length + 63) / 64) (hcl : cs.length ≤ 65536) (hk : 1 ≤ k ∧ k ≤ 6) (hn : n ≤ 4096)
    (hrl : rs.length ≤ 64000) (hrw : Within rs) (hf : takeAddr rs (n + 1) = a) (ha : 0 < a) (hfit : a + 1 + n ≤ cs.length) :
    Calls Tryz.prog 64 #[.pointer (some ⟨Y.hb, 0, none⟩), .int .i64 (k : Int), .int .i64 (n : Int)] w (AllocDone Y (a : Int) 0 (onesTo (cs.set a (n * 8 + k)) (a + 1) n) (addMark ms a) (takeRuns rs (n + 1)) w) := by
  have g0 : decide ((k : Int) < 1) = false := by rw [decide_eq_false_iff_not]; omega
  have g1 : decide (6 < (k : Int)) = false := by rw [decide_eq_false_iff_not]; omega
  have g2 : decide ((n : Int) < 0) = false := by rw [decide_eq_false_iff_not]; omega
  have g3 : decide (4096 < (n : Int)) = false := by rw [decide_eq_false_iff_not]; omega
  have g4 : ((a : Int) == 0) = false := by simp; omega
  have ht := take_any Y.hb Y.fb Y.kf (n + 1) _ _ rs w hm.head hm.runs (by omega) hrw
  rw [show ((n + 1 : Nat) : Int) = (n : Int) + 1 by omega] at ht
  have HT := Lib.hid ht
  have HM := Lib.hid hm
  have HF := Lib.hid hf
  have HMS := Lib.hid hs
  have HML := Lib.hid hml
  clear hm hrw ht hf hs hml
  go_enter Tryz.func64, Tryz.ntmps64
  go_wp2_with fail
  refine HT.out.mono ?_
  unfold TakeMade
  rw [HF.out]
  rintro e w1 ⟨rfl, hf⟩
  obtain ⟨g', k', hm1, ht1, hg1⟩ := HM.out.free hf
  obtain ⟨Y1, hY1⟩ : ∃ Y1 : Lay, Y1 = { Y with fb := g', kf := k' } := ⟨_, rfl⟩
  rw [← hY1] at hm1
  have HB : Hid (Y1.hb = Y.hb) := Lib.hid (by rw [hY1])
  have HO : Hid (∀ b, Y1.own b → Y.own b ∨ w.heap.size ≤ b) := Lib.hid (by
    subst hY1
    rintro b (e | e | e | e)
    · exact .inl (.inl e)
    · exact .inl (.inr (.inl e))
    · exact .inl (.inr (.inr (.inl e)))
    · rcases hg1 with h3 | h3
      · exact .inl (.inr (.inr (.inr (e.trans h3))))
      · exact .inr (by rw [e]; exact h3))
  have c0 := hm1.head.cell0
  have c1 := hm1.head.cell1
  rw [HB.out] at c0 c1
  have HA := Lib.hid (add_any Y1.mb Y1.km a ms w1 hm1.marks (by rw [HML.out]; omega) (by rw [HML.out]; omega) (HMS.out _))
  have HM1 := Lib.hid hm1
  have HT1 := Lib.hid ht1
  clear hm1 ht1 hg1 hY1 hf
  go_wp2_with fail
  refine HA.out.mono ?_
  rintro e w2 ⟨rfl, hw2, hg2⟩
  obtain ⟨hm2, ht2⟩ := HM1.out.remark (addMark_len ms a) hw2 hg2
  have d0 := hm2.head.cell0
  have d1 := hm2.words.cell a (by omega)
  have d2 := hm2.words.frozen a
  rw [HB.out] at d0
  have HM2 := Lib.hid hm2
  have HT2 := Lib.hid ht2
  clear hw2 hg2 hm2 ht2
  have hor := header_or n k hn (by omega)
  have hsh : IntKind.u64.wrap ((n : Int) * 8) = (n : Int) * 8 := by rw [IntKind.wrap_u64]; omega
  go_wp2_with fail
  clear hor hsh
  have hc3 : (((n * 8 + k : Nat)) : Int) = (n : Int) * 8 + (k : Int) := by omega
  have hst := HM2.out.store a (n * 8 + k)
  rw [hc3] at hst
  obtain ⟨hm3, ht3⟩ := hst
  have hx3 : (cs.set a (n * 8 + k)).getD a 0 / 8 = n := by
    rw [getD_set, if_pos ⟨rfl, by omega⟩]
    omega
  have hF := fields_any Y1 (cs.set a (n * 8 + k)) (addMark ms a) (takeRuns rs (n + 1)) a n _ hm3 (by rw [List.length_set]; exact hcl) hx3 (by rw [List.length_set]; exact hfit)
  rw [HB.out] at hF
  have HFI := Lib.hid hF
  have HT3 : Hid (Turned Y1.own w1 (w2.setCell ⟨Y1.cb, a, none⟩ (.int .u64 ((n : Int) * 8 + (k : Int))))) := Lib.hid (HT2.out.trans ht3)
  have HM3 := Lib.hid hm3
  have hl3 : (cs.set a (n * 8 + k)).length = cs.length := by rw [List.length_set]
  have HL3 := Lib.hid hl3
  clear hm3 ht3 hx3 hF hc3 hl3 c0 c1 d0 d1 d2
  generalize cs.set a (n * 8 + k) = cs' at *
  generalize w2.setCell ⟨Y1.cb, a, none⟩ (.int .u64 ((n : Int) * 8 + (k : Int))) = w3 at *
  refine HFI.out.mono ?_
  unfold FieldsSame
  rcases Nat.eq_zero_or_pos n with hn0 | hn0
  · subst hn0
    rw [show fieldsAddr Y1 a 0 = some ⟨Y1.cb, 0, none⟩ from rfl]
    rintro e w4 ⟨rfl, rfl⟩
    go_wp2_with fail
    go_loopw [10, 54] (fun _ vi wr => vi = .int .i64 0 ∧ w3 = wr) (fun _ _ _ => 0)
    case atStart => exact ⟨rfl, rfl⟩
    case round =>
      obtain ⟨rfl, rfl⟩ := hrel
      go_wp2_with fail
      go_ret2
      refine ⟨rfl, ⟨Y1, HB.out, HM3.out, HT1.out.then HT3.out HO.out, HO.out⟩⟩
  · rw [show fieldsAddr Y1 a n = some ⟨Y1.cb, a + 1, none⟩ by unfold fieldsAddr; rw [if_neg (by omega)]]
    rintro e w4 ⟨rfl, rfl⟩
    go_wp2_with fail
    go_loopw [10, 54] (fun _ vi wr => ∃ i : Nat, i ≤ n ∧ vi = .int .i64 i ∧ Hid (Mem wr Y1 (onesTo cs' (a + 1) i) (addMark ms a) (takeRuns rs (n + 1))) ∧ Hid (Turned Y1.own w1 wr)) (fun _ vi _ => n - (intOf vi).toNat)
    case atStart => exact ⟨0, by omega, by go_num, HM3, HT3⟩
    case round =>
      obtain ⟨i, hin, rfl, HMI, HTI⟩ := hrel
      by_cases hi : i < n
      · have e1 := HMI.out.words.cell (a + 1 + i) (by rw [onesTo_len, HL3.out]; omega)
        have e2 := HMI.out.words.frozen (a + 1 + i)
        obtain ⟨hm5, ht5⟩ := HMI.out.store (a + 1 + i) 1
        have HM5 := Lib.hid hm5
        have HT5 := Lib.hid (HTI.out.trans ht5)
        clear hm5 ht5
        go_wp2_with (go_at_call 49; refine (word_Of0 _).mono ?_; rintro e w' ⟨rfl, rfl⟩)
        go_roundw
        case rel => exact ⟨i + 1, by omega, by go_num, HM5, HT5⟩
        case measure => simp [intOf]; omega
      · have hi' : n ≤ i := by omega
        obtain rfl : i = n := by omega
        go_wp2_with fail
        go_ret2
        refine ⟨rfl, ⟨Y1, HB.out, HMI.out, HT1.out.then HTI.out HO.out, HO.out⟩⟩
end Go.Proofs.YtdkbgdjkdalalaaGreatDoor
