/-
  The walk of the library's Replace by one run, at a row of runs.
-/
import Derived.Test.YtdkbgdjkdalalaaGreatDoorHIns
namespace Go.Proofs.YtdkbgdjkdalalaaGreatDoor
open Go.RowKit
/-- The row with what stands from place i to place j taken out, and r laid there. -/
def swapAt (l : List (Nat × Nat)) (i j : Nat) (r : Nat × Nat) : List (Nat × Nat) := l.take i ++ r :: l.drop j
theorem swapAt_len (l : List (Nat × Nat)) (i j : Nat) (r : Nat × Nat) (h : i ≤ j) (hj : j ≤ l.length) : (swapAt l i j r).length = i + 1 + (l.length - j) := by
  simp [swapAt]; omega
theorem swapAt_same (l : List (Nat × Nat)) (i : Nat) (r : Nat × Nat) : swapAt l i i r = putAt l i r := rfl
theorem swap_mid (l : List (Nat × Nat)) (i : Nat) (r : Nat × Nat) (h : i < l.length) : Spliced 2 l.length l.length (rcs l) (i * 2) (rcs [r]) (rcs (l.set i r)) := by
  have h1 : (l.set i r).length = l.length := by simp
  have hs := spliced_rcs l (l.set i r) [r] i (fun j hj => ?_)
  · rw [h1] at hs; exact hs
  · rw [List.getElem?_set]
    by_cases h2 : i = j
    · subst h2
      exact .inl ⟨by omega, by simp, by simp [h]⟩
    · exact .inr ⟨by simp; omega, by omega, by simp [h2]⟩
theorem swap_end (l : List (Nat × Nat)) (i j : Nat) (r : Nat × Nat) (hij : i < j) (h : j < l.length) : Spliced 2 l.length (i + 1 + (l.length - j)) (rcs (l.set i r)) ((i + 1) * 2) (rcs (l.drop j)) (rcs (swapAt l i j r)) := by
  have h1 : (l.set i r).length = l.length := by simp
  have h2 := swapAt_len l i j r (by omega) (by omega)
  have hs := spliced_rcs (l.set i r) (swapAt l i j r) (l.drop j) (i + 1) (fun q hq => ?_)
  · rw [h1, h2] at hs; exact hs
  · rw [h2] at hq
    unfold swapAt
    rw [List.getElem?_append, List.length_take, List.getElem?_take]
    by_cases h3 : q < i
    · refine .inr ⟨by omega, by simp; omega, ?_⟩
      rw [if_pos (by omega), if_pos h3, List.getElem?_set, if_neg (by omega)]
    · by_cases h4 : q = i
      · subst h4
        refine .inr ⟨by omega, by simp; omega, ?_⟩
        rw [if_neg (by omega), show q - min q l.length = 0 by omega, List.getElem?_set, if_pos rfl, if_pos (by omega)]
        rfl
      · refine .inl ⟨by omega, by rw [List.length_drop]; omega, ?_⟩
        obtain ⟨p, hp⟩ : ∃ p, q = i + 1 + p := ⟨q - i - 1, by omega⟩
        subst hp
        rw [if_neg (by omega), show i + 1 + p - min i l.length = p + 1 by omega, List.getElem?_cons_succ, show i + 1 + p - (i + 1) = p by omega]
/-- What lies behind the elements that are kept may turn. -/
theorem spliced_behind (l : List (Nat × Nat)) (n o : Nat) (vs : List Value) (h : l.length * 2 ≤ o) (hn : l.length ≤ n) (xs : List Value) (hx : xs.take (l.length * 2) = rcs l) : Spliced 2 n l.length xs o vs (rcs l) := by
  refine ⟨rcs_len _, fun j hj => .inr ⟨by omega, by omega, ?_⟩⟩
  rw [← hx, List.getElem?_take, if_pos hj]
set_option maxHeartbeats 1000000 in
set_option maxRecDepth 100000 in
theorem replace_end (g k i m q : Nat) (r : Nat × Nat) (l : List (Nat × Nat)) (w : World) (hr : Runs w g k l) (hq : OneRun w q r) (hl : l.length = i + (m + 1)) (hn : l.length ≤ 65000) :
    Calls Tryz.prog 112 #[.slice (some ⟨g, 0, none⟩) (i + (m + 1)) k, .int .i64 (i : Int), .int .i64 ((i : Int) + ((m : Int) + 1)), .slice (some ⟨q, 0, none⟩) 1 1] w (RunsMade g (swapAt l i l.length r) w) := by
  obtain ⟨i0, hi0, hz0, hz1, hz2⟩ := info_parts infoRun
  have hcap := hr.cap
  unfold maxLen at hcap
  have B0 : ((i : Int) == (i : Int) + ((m : Int) + 1)) = false := by simp; omega
  have hk2 := hcap.2
  have hk1 : i + (m + 1) ≤ k := by omega
  have hik : ¬ (k = i) := by omega
  have hb65 : i + (m + 1) ≤ 65000 := by omega
  have hcut := own_cut hr i (by omega)
  obtain ⟨w1, hrun1, hown1, hg1⟩ := run_append_fits (P := Tryz.prog) w 0 99 99 97 i0 2 Tryz.underlying99 hi0 hz1 g i k _ hcut ⟨q, 0, none⟩ 1 1 (rcs [r]) rfl (OneRun.cells hq rfl) (rcs_one _) (by omega)
  rw [← append_types (P := Tryz.prog) 99 98 99 97 i0 Tryz.underlying99 Tryz.underlying98 hi0] at hrun1
  have hsw : swapAt l i l.length r = l.take i ++ [r] := by simp [swapAt]
  rw [← rcs_take, ← rcs_append, ← hsw] at hown1
  have hlen : (swapAt l i l.length r).length = i + 1 := by rw [swapAt_len l i _ r (by omega) (by omega)]; omega
  have HRUN1 := Lib.hid hrun1
  have HOWN1 := Lib.hid hown1
  have HG1 := Lib.hid hg1
  have HLEN := Lib.hid hlen
  clear hcap hl hr hq hrun1 hown1 hg1 hcut hsw hlen
  have hp4 : i ≤ k := by omega
  rcases m with _ | m
  · have B1 : ((i : Int) == (i : Int) + 1) = false := by simp; omega
    go_enter Tryz.func112, Tryz.ntmps112
    go_wp2_with (at_builtin; refine Lib.wpList_append_run _ rfl (.tmp 32) (.tmp 33) 99 98 rfl _ _ rfl rfl _ _ HRUN1.out ?_)
    go_ret
    refine ⟨g, k, by rw [HLEN.out]; rfl, ?_, HG1.out, .inl rfl⟩
    unfold Runs
    rw [HLEN.out]
    exact HOWN1.out
  · have hik1 : ¬ (k = i + 1) := by omega
    have hp5 : i + (m + 1 + 1) - (i + 1) = m + 1 := by omega
    have hwr : IntKind.i64.wrap ((i : Int) + 1) = (i : Int) + 1 := by rw [IntKind.wrap_i64]; omega
    have hp0 : (0 : Int) ≤ (i : Int) + 1 := by omega
    have hp1 : (i : Int) + 1 ≤ (i : Int) + ((m : Int) + 1 + 1) := by omega
    have hp2 : ((i : Int) + 1).toNat = i + 1 := by omega
    go_enter Tryz.func112, Tryz.ntmps112
    go_wp2_with (at_builtin; refine Lib.wpList_append_run _ rfl (.tmp 32) (.tmp 33) 99 98 rfl _ _ rfl rfl _ _ HRUN1.out ?_)
    obtain ⟨w2, vs, hrun, hvl, ha⟩ := run_clear_own (P := Tryz.prog) (w := w1) (size := 2) 99 0 i0 _ Tryz.underlying99 hi0 hz0 rfl agg2_one (by decide) ((i + 1) * 2) m (k - (i + 1)) HOWN1.out (by omega)
    rw [hrun]
    simp only [Result.andThen]
    rw [Oper.upon_value]
    clear hrun
    have HA := Lib.hid ha
    clear ha
    go_wp2_with fail
    go_ret
    refine ⟨g, k, by rw [HLEN.out]; rfl, ?_, grown_trans' HG1.out HA.out.1, .inl rfl⟩
    unfold Runs
    have h := HA.out.2 (i + 1) (rcs (swapAt l i l.length r)) (by omega) (by
      have h := spliced_behind (swapAt l i l.length r) (i + 1) ((i + 1) * 2) vs (by rw [HLEN.out]; exact Nat.le_refl _) (by rw [HLEN.out]; exact Nat.le_refl _) (rcs (swapAt l i l.length r)) (List.take_of_length_le (by rw [rcs_len]; exact Nat.le_refl _))
      rw [HLEN.out] at h
      exact h)
    rw [HLEN.out]
    exact h
set_option maxHeartbeats 2000000 in
set_option maxRecDepth 100000 in
theorem replace_mid (g k i m p q : Nat) (r : Nat × Nat) (l : List (Nat × Nat)) (w : World) (hr : Runs w g k l) (hq : OneRun w q r) (_hne : q ≠ g) (hl : l.length = i + (m + 1) + (p + 1)) (hn : l.length ≤ 65000) :
    Calls Tryz.prog 112 #[.slice (some ⟨g, 0, none⟩) (i + (m + 1) + (p + 1)) k, .int .i64 (i : Int), .int .i64 ((i : Int) + ((m : Int) + 1)), .slice (some ⟨q, 0, none⟩) 1 1] w (RunsMade g (swapAt l i (i + (m + 1)) r) w) := by
  obtain ⟨i0, hi0, hz0, hz1, hz2⟩ := info_parts infoRun
  have hcap := hr.cap
  unfold maxLen at hcap
  have B0 : ((i : Int) == (i : Int) + ((m : Int) + 1)) = false := by simp; omega
  have B1 : ((i : Int) + ((m : Int) + 1) == (i : Int) + ((m : Int) + 1) + ((p : Int) + 1)) = false := by simp; omega
  have hk2 := hcap.2
  have hk1 : i + (m + 1) + (p + 1) ≤ k := by omega
  have hik : ¬ (k = i) := by omega
  have hik1 : ¬ (k = i + 1) := by omega
  have hik2 : ¬ (k = i + (m + 1)) := by omega
  have hb65 : i + (m + 1) + (p + 1) ≤ 65000 := by omega
  have HR := Lib.hid hr
  have HQ := Lib.hid hq
  have HL := Lib.hid hl
  clear hcap hl hr hq
  have hp4 : i ≤ k := by omega
  have hp5 : (i : Int) ≤ (i : Int) + ((m : Int) + 1) + ((p : Int) + 1) := by omega
  have hp6 : (i : Int) + ((m : Int) + 1) ≤ (i : Int) + ((m : Int) + 1) + ((p : Int) + 1) := by omega
  have hp7 : i + (m + 1) + (p + 1) - (i + (m + 1)) = p + 1 := by omega
  have hp8 : ((i : Int) + ((m : Int) + 1)).toNat = i + (m + 1) := by omega
  have hp9 : (0 : Int) ≤ (i : Int) + ((m : Int) + 1) := by omega
  have hwr1 : IntKind.i64.wrap ((i : Int) + 1) = (i : Int) + 1 := by rw [IntKind.wrap_i64]; omega
  have hwr2 : IntKind.i64.wrap ((i : Int) + 1 + ((p : Int) + 1)) = (i : Int) + 1 + ((p : Int) + 1) := by rw [IntKind.wrap_i64]; omega
  go_enter Tryz.func112, Tryz.ntmps112
  go_wp2_with fail
  go_region
  clear hwr1 hwr2
  go_wp2_with fail
  have hown1 : w.drew.ownsRow 0 97 2 (.slice (some ⟨g, 0, none⟩) l.length k) l.length (rcs l) := HR.out
  obtain ⟨w1, hrun, ha1⟩ := run_copy_into (P := Tryz.prog) (w := w.drew) (size := 2) 99 98 3 i0 Tryz.underlying99 hi0 hz1 (i * 2) (i + 1 + (p + 1) - i) (k - i) ⟨q, 0, none⟩ 1 1 hown1 (rcs [r]) (by rw [rcs_len, show Nat.min 1 (i + 1 + (p + 1) - i) = 1 from Nat.min_eq_left (by omega)]; rfl) (OneRun.cells HQ.out rfl) (by rw [rcs_len]; simp; omega) (rcs_one _)
  rw [show goInt (Nat.min 1 (i + 1 + (p + 1) - i)) = .int .i64 1 by rw [show Nat.min 1 (i + 1 + (p + 1) - i) = 1 from Nat.min_eq_left (by omega)]; rfl] at hrun
  have HA1 := Lib.hid ha1
  clear ha1 hown1
  rw [hrun]
  simp only [Result.andThen]
  rw [Oper.upon_value]
  clear hrun
  have hil : i < l.length := by rw [HL.out]; omega
  have hown2 := HA1.out.2 l.length _ (by rw [HL.out]; omega) (swap_mid l i r hil)
  have hsrc : Hid (∀ j u, (rcs (l.drop (i + (m + 1))))[j]? = some u → w1.drew.cell? ((⟨g, (i + (m + 1)) * 2, none⟩ : Addr).add j) = some u) := Lib.hid (fun j u hu => by
    rw [Addr.add_lit]
    rw [rcs_drop, List.getElem?_drop] at hu
    have hj : (i + (m + 1)) * 2 + j < (rcs l).length := (List.getElem?_eq_some_iff.1 hu).1
    rw [rcs_len] at hj
    have hc := World.ownsRow.cellAt hown2 ((i + (m + 1)) * 2 + j) hj
    refine hc.trans ?_
    rw [rcs_get, List.getElem?_set, if_neg (by omega), ← rcs_get]
    exact hu)
  have HOWN2 : Hid (w1.drew.ownsRow 0 97 2 (.slice (some ⟨g, 0, none⟩) l.length k) l.length (rcs (l.set i r))) := hown2
  have hnl : Hid ((rcs (l.drop (i + (m + 1)))).length = Nat.min (p + 1) (p + 1) * 2) := Lib.hid (by rw [rcs_len, List.length_drop, HL.out, show Nat.min (p + 1) (p + 1) = p + 1 from Nat.min_eq_right (by omega)]; omega)
  have hft : (i + 1) * 2 + (rcs (l.drop (i + (m + 1)))).length ≤ k * 2 := by rw [rcs_len, List.length_drop, HL.out]; omega
  have HFT := Lib.hid hft
  clear hft hown2 hil
  have hwr1 : IntKind.i64.wrap ((i : Int) + 1) = (i : Int) + 1 := by rw [IntKind.wrap_i64]; omega
  have hp0 : (0 : Int) ≤ (i : Int) + 1 := by omega
  have hp1 : (i : Int) + 1 ≤ (i : Int) + 1 + ((p : Int) + 1) := by omega
  have hp2 : ((i : Int) + 1).toNat = i + 1 := by omega
  have hp10 : i + 1 + (p + 1) - (i + 1) = p + 1 := by omega
  go_wp2_with fail
  go_region_law ((refine step_copy_into rfl (.tmp 103) (.tmp 106) 99 99 rfl i0 Tryz.underlying99 hi0 hz1 ((i + 1) * 2) (p + 1) (k - (i + 1)) ⟨g, (i + (m + 1)) * 2, none⟩ (p + 1) (k - (i + (m + 1))) (by simp [Act.eval, Act.put]) (by simp [Act.eval, Act.put]) HOWN2.out (rcs (l.drop (i + (m + 1)))) hnl.out hsrc.out HFT.out (rcs_one _) ?_); intro w2 ha2)
  have HA2 := Lib.hid ha2
  clear ha2 hwr1
  have hlen : (swapAt l i (i + (m + 1)) r).length = i + 1 + (p + 1) := by rw [swapAt_len l i _ r (by omega) (by rw [HL.out]; omega), HL.out]; omega
  have hown3 := HA2.out.2 (i + 1 + (p + 1)) (rcs (swapAt l i (i + (m + 1)) r)) (by omega) (by
    have h := swap_end l i (i + (m + 1)) r (by omega) (by rw [HL.out]; omega)
    rw [show l.length - (i + (m + 1)) = p + 1 by rw [HL.out]; omega] at h
    exact h)
  have HG2 : Hid (w.grownBy w2 (some g)) := Lib.hid (grown_trans' (grown_undrew HA1.out.1) (grown_undrew HA2.out.1))
  have HOWN3 := Lib.hid hown3
  have HLEN := Lib.hid hlen
  clear hown3 hlen HA1 HA2 HOWN2 hnl hsrc HFT
  have hq1 : (i : Int) + 1 + ((p : Int) + 1) ≤ (i : Int) + ((m : Int) + 1) + ((p : Int) + 1) := by omega
  have hq2 : ((i : Int) + 1 + ((p : Int) + 1)).toNat = i + 1 + (p + 1) := by omega
  have hq3 : (0 : Int) ≤ (i : Int) + 1 + ((p : Int) + 1) := by omega
  obtain ⟨A, hA, hA2⟩ : ∃ A : Addr, (if k = i + 1 + (p + 1) then some (⟨g, 0, none⟩ : Addr) else some ⟨g, (i + 1 + (p + 1)) * 2, none⟩) = some A ∧ Hid (0 < m → A = ⟨g, (i + 1 + (p + 1)) * 2, none⟩) := by
    by_cases h : k = i + 1 + (p + 1)
    · exact ⟨⟨g, 0, none⟩, by rw [if_pos h], Lib.hid (fun hm => by omega)⟩
    · exact ⟨⟨g, (i + 1 + (p + 1)) * 2, none⟩, by rw [if_neg h], Lib.hid (fun _ => rfl)⟩
  have hq4 : i + (m + 1) + (p + 1) - (i + 1 + (p + 1)) = m := by omega
  go_wp2_with fail
  rcases m with _ | m
  · rw [run_clear_none (P := Tryz.prog) 99 0 Tryz.underlying99]
    simp only [Result.andThen]
    rw [Oper.upon_value]
    go_wp2_with fail
    go_ret
    refine ⟨g, k, by rw [HLEN.out]; rfl, ?_, HG2.out, .inl rfl⟩
    unfold Runs
    rw [HLEN.out]
    exact HOWN3.out
  · obtain rfl := hA2.out (by omega)
    obtain ⟨w3, vs, hrun, hvl, ha⟩ := run_clear_own (P := Tryz.prog) (w := w2) (size := 2) 99 0 i0 _ Tryz.underlying99 hi0 hz0 rfl agg2_one (by decide) ((i + 1 + (p + 1)) * 2) m (k - (i + 1 + (p + 1))) HOWN3.out (by omega)
    rw [hrun]
    simp only [Result.andThen]
    rw [Oper.upon_value]
    clear hrun
    have HA := Lib.hid ha
    clear ha
    go_wp2_with fail
    go_ret
    refine ⟨g, k, by rw [HLEN.out]; rfl, ?_, grown_trans' HG2.out HA.out.1, .inl rfl⟩
    unfold Runs
    have h := HA.out.2 (i + 1 + (p + 1)) (rcs (swapAt l i (i + (m + 1 + 1)) r)) (by omega) (by
      have h := spliced_behind (swapAt l i (i + (m + 1 + 1)) r) (i + 1 + (p + 1)) ((i + 1 + (p + 1)) * 2) vs (by rw [HLEN.out]; exact Nat.le_refl _) (by rw [HLEN.out]; exact Nat.le_refl _) (rcs (swapAt l i (i + (m + 1 + 1)) r)) (List.take_of_length_le (by rw [rcs_len]; exact Nat.le_refl _))
      rw [HLEN.out] at h
      exact h)
    rw [HLEN.out]
    exact h
set_option maxHeartbeats 1000000 in
set_option maxRecDepth 100000 in
theorem replace_same (g k i q : Nat) (r : Nat × Nat) (l : List (Nat × Nat)) (w : World) (hr : Runs w g k l) (hq : OneRun w q r) (hne : q ≠ g) (hi : i ≤ l.length) (hn : l.length ≤ 65000) :
    Calls Tryz.prog 112 #[.slice (some ⟨g, 0, none⟩) l.length k, .int .i64 (i : Int), .int .i64 (i : Int), .slice (some ⟨q, 0, none⟩) 1 1] w (RunsMade g (swapAt l i i r) w) := by
  have hcap := hr.cap
  unfold maxLen at hcap
  have hk2 := hcap.2
  have hk1 := hcap.1
  have hik : i ≤ k := by omega
  have HI := Lib.hid (insert_any g k i q r l w hr hq hne hi hn)
  have HR := Lib.hid hr
  clear hr hcap
  obtain ⟨A, hA⟩ : ∃ A : Addr, (if k = i then some (⟨g, 0, none⟩ : Addr) else some ⟨g, i * 2, none⟩) = some A := by split <;> exact ⟨_, rfl⟩
  go_enter Tryz.func112, Tryz.ntmps112
  go_wp2_with fail
  refine HI.out.mono ?_
  rintro e w1 ⟨g', k', rfl, h1, h2, h3⟩
  have H1 : Hid (Runs w1 g' k' (putAt l i r)) := Lib.hid h1
  have H2 := Lib.hid h2
  have H3 := Lib.hid h3
  clear h1 h2 h3
  go_wp2_with fail
  go_ret
  exact ⟨g', k', rfl, H1.out, H2.out, H3.out⟩
theorem replace_any (g k i j q : Nat) (r : Nat × Nat) (l : List (Nat × Nat)) (w : World) (hr : Runs w g k l) (hq : OneRun w q r) (hne : q ≠ g) (hij : i ≤ j) (hj : j ≤ l.length) (hn : l.length ≤ 65000) :
    Calls Tryz.prog 112 #[.slice (some ⟨g, 0, none⟩) l.length k, .int .i64 (i : Int), .int .i64 (j : Int), .slice (some ⟨q, 0, none⟩) 1 1] w (RunsMade g (swapAt l i j r) w) := by
  by_cases h : i = j
  · subst h
    exact replace_same g k i q r l w hr hq hne hj hn
  · obtain ⟨m, rfl⟩ : ∃ m, j = i + (m + 1) := ⟨j - i - 1, by omega⟩
    rw [show ((i + (m + 1) : Nat) : Int) = (i : Int) + ((m : Int) + 1) by omega]
    by_cases h2 : l.length = i + (m + 1)
    · have h := replace_end g k i m q r l w hr hq h2 hn
      rw [← h2]
      rw [← h2] at h
      exact h
    · obtain ⟨p, hp⟩ : ∃ p, l.length = i + (m + 1) + (p + 1) := ⟨l.length - (i + (m + 1)) - 1, by omega⟩
      have h := replace_mid g k i m p q r l w hr hq hne hp hn
      rw [← hp] at h
      exact h
end Go.Proofs.YtdkbgdjkdalalaaGreatDoor
