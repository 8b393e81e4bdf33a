/-
  The walk of the library's Insert of one run, at a row of runs: within the capacity, beyond it, and at the end.
-/
import Derived.Test.YtdkbgdjkdalalaaGreatDoorHDel
import Derived.Lib.Overlaps
import Derived.Deep.Draws
namespace Go.Proofs.YtdkbgdjkdalalaaGreatDoor
open Go.RowKit
theorem rcs_get (l : List (Nat × Nat)) (j : Nat) : (rcs l)[j]? = (l[j / 2]?).map fun r => if j % 2 = 0 then Value.int .i64 (r.1 : Int) else Value.int .i64 (r.2 : Int) := by
  induction l generalizing j with
  | nil => simp [rcs]
  | cons r l ih =>
    rw [rcs_cons]
    match j with
    | 0 => simp
    | 1 => simp
    | j + 2 =>
      have h1 : (j + 2) / 2 = j / 2 + 1 := by omega
      have h2 : (j + 2) % 2 = j % 2 := by omega
      rw [h1, h2]
      simpa using ih j
theorem spliced_rcs (l l' c : List (Nat × Nat)) (i : Nat) (h : ∀ j, j < l'.length → (i ≤ j ∧ j < i + c.length ∧ l'[j]? = c[j - i]?) ∨ ((j < i ∨ i + c.length ≤ j) ∧ j < l.length ∧ l'[j]? = l[j]?)) :
    Spliced 2 l.length l'.length (rcs l) (i * 2) (rcs c) (rcs l') := by
  refine ⟨rcs_len _, fun j hj => ?_⟩
  rcases h (j / 2) (by omega) with ⟨h1, h2, h3⟩ | ⟨h1, h2, h3⟩
  · refine .inl ⟨by omega, by rw [rcs_len]; omega, ?_⟩
    rw [rcs_get, rcs_get, h3, show (j - i * 2) / 2 = j / 2 - i by omega, show (j - i * 2) % 2 = j % 2 by omega]
  · refine .inr ⟨by rw [rcs_len]; omega, by omega, ?_⟩
    rw [rcs_get, rcs_get, h3]
/-- The row with r laid ahead of place i. -/
def putAt (l : List (Nat × Nat)) (i : Nat) (r : Nat × Nat) : List (Nat × Nat) := l.take i ++ r :: l.drop i
theorem putAt_len (l : List (Nat × Nat)) (i : Nat) (r : Nat × Nat) (h : i ≤ l.length) : (putAt l i r).length = l.length + 1 := by
  simp [putAt]; omega
theorem insert_mid (l : List (Nat × Nat)) (i : Nat) (h : i < l.length) : Spliced 2 l.length (l.length + 1) (rcs l) ((i + 1) * 2) (rcs (l.drop i)) (rcs (l.take (i + 1) ++ l.drop i)) := by
  have hl : (l.take (i + 1) ++ l.drop i).length = l.length + 1 := by simp; omega
  rw [← hl]
  refine spliced_rcs _ _ _ _ fun j hj => ?_
  rw [hl] at hj
  rw [List.getElem?_append, List.getElem?_take, List.length_take, List.length_drop]
  by_cases h1 : j < i + 1
  · refine .inr ⟨.inl h1, by omega, ?_⟩
    rw [if_pos (by omega), if_pos h1]
  · refine .inl ⟨by omega, by omega, ?_⟩
    rw [if_neg (by omega)]
    congr 1; omega
theorem insert_end (l : List (Nat × Nat)) (i : Nat) (r : Nat × Nat) (h : i < l.length) : Spliced 2 (l.length + 1) (l.length + 1) (rcs (l.take (i + 1) ++ l.drop i)) (i * 2) (rcs [r]) (rcs (putAt l i r)) := by
  have hl : (l.take (i + 1) ++ l.drop i).length = l.length + 1 := by simp; omega
  have hl2 := putAt_len l i r (by omega)
  have hs := spliced_rcs (l.take (i + 1) ++ l.drop i) (putAt l i r) [r] i (fun j hj => ?_)
  · rw [hl, hl2] at hs; exact hs
  · rw [hl2] at hj
    unfold putAt
    rw [List.getElem?_append, List.getElem?_append, List.length_take, List.length_take, List.getElem?_take, List.getElem?_take]
    by_cases h1 : j < i
    · refine .inr ⟨.inl h1, by omega, ?_⟩
      rw [if_pos (by omega), if_pos h1, if_pos (by omega), if_pos (by omega)]
    · by_cases h2 : j = i
      · subst h2
        refine .inl ⟨by omega, by simp, ?_⟩
        rw [if_neg (by omega), show j - min j l.length = 0 by omega]
        simp
      · refine .inr ⟨.inr (by simp; omega), by omega, ?_⟩
        rw [if_neg (by omega)]
        obtain ⟨q, hq⟩ : ∃ q, j = i + 1 + q := ⟨j - i - 1, by omega⟩
        subst hq
        rw [show i + 1 + q - min i l.length = q + 1 by omega, List.getElem?_cons_succ, List.getElem?_drop, if_neg (by omega), show i + 1 + q - min (i + 1) l.length = q by omega, List.getElem?_drop]
/-- One run in a block of its own. -/
def OneRun (w : World) (q : Nat) (r : Nat × Nat) : Prop := w.heap[q]? = some (.cells #[.int .i64 (r.1 : Int), .int .i64 (r.2 : Int)] 97 (0, 0))
theorem OneRun.cells {w W : World} {q : Nat} {r : Nat × Nat} (h : OneRun w q r) (hW : W.heap[q]? = w.heap[q]?) : ∀ j u, (rcs [r])[j]? = some u → W.cell? ((⟨q, 0, none⟩ : Addr).add j) = some u := by
  intro j u hu
  have hb : W.heap[q]? = some (.cells #[.int .i64 (r.1 : Int), .int .i64 (r.2 : Int)] 97 (0, 0)) := hW.trans h
  have hadd : (⟨q, 0, none⟩ : Addr).add j = ⟨q, j, none⟩ := by unfold Addr.add; split <;> simp_all
  rw [hadd, Lib.cell_of_heap hb]
  match j with
  | 0 => simpa [rcs] using hu
  | 1 => simpa [rcs] using hu
  | j + 2 => simp [rcs] at hu
theorem lt_of_heap {w : World} {q : Nat} {cs : Array Value} {t : TypeId} {fr : Nat × Nat} (h : w.heap[q]? = some (.cells cs t fr)) : q < w.heap.size := (Array.getElem?_eq_some_iff.1 h).1
theorem size56 (w : World) : (Go.sizeOf 97).run Tryz.prog w = .ok 2 w := by
  obtain ⟨i0, hi0, hz0, hz1, hz2⟩ := info_parts infoRun
  simp [sizeOf, typeInfo, hi0, hz1]
theorem overlaps_no (w : World) (q g off m c m' c' : Nat) (r : Nat × Nat) (cur : Array Value) (hq : OneRun w q r) (hg : w.heap[g]? = some (.cells cur 97 (0, 0))) (hne : q ≠ g) (hc : 0 < cur.size) :
    (callFunc 115 #[.slice (some ⟨q, 0, none⟩) m c, .slice (some ⟨g, off, none⟩) m' c']).run Tryz.prog w = .ok (.value (.bool false)) w := by
  have hq' : w.heap[q]? = some (.cells #[.int .i64 (r.1 : Int), .int .i64 (r.2 : Int)] 97 (0, 0)) := hq
  rw [run_callFunc_extern Tryz.func115 (by kernel_rfl) (by kernel_rfl) (by kernel_rfl) (e := Extern.SlicesOverlaps.overlaps #[98, 98] #[4]) (by kernel_rfl),
    Lib.run_overlaps_apart w 98 4 97 Tryz.underlying98 2 size56 ⟨q, 0, none⟩ ⟨g, off, none⟩ m c m' c' hne 97 97 2 cur.size
      (by simp [World.shape?, hq']) (by simp [World.shape?, hg]) (by omega) (by simp [World.frozen?, hq']) (by simp [World.frozen?, hq'])]
  rfl
set_option maxHeartbeats 1000000 in
set_option maxRecDepth 100000 in
theorem insert_room (g k i m q : Nat) (r : Nat × Nat) (l : List (Nat × Nat)) (w : World) (hr : Runs w g k l) (hq : OneRun w q r) (hne : q ≠ g) (hl : l.length = i + (m + 1)) (hn : l.length ≤ 65536) (hroom : i + (m + 1) + 1 ≤ k) :
    Calls Tryz.prog 114 #[.slice (some ⟨g, 0, none⟩) (i + (m + 1)) k, .int .i64 (i : Int), .slice (some ⟨q, 0, none⟩) 1 1] w (RunsMade g (putAt l i r) w) := by
  obtain ⟨i0, hi0, hz0, hz1, hz2⟩ := info_parts infoRun
  have hcap := hr.cap
  unfold maxLen at hcap
  have B0 : ((i : Int) == (i : Int) + ((m : Int) + 1)) = false := by simp; omega
  have hk2 := hcap.2
  have hik : ¬ (k = i) := by omega
  have hik2 : ¬ (k = i + 1) := by omega
  obtain ⟨cur, _, hg, _, _, hcs, _⟩ := own_open hr
  have hov : ∀ off m c m' c', (callFunc 115 #[.slice (some ⟨q, 0, none⟩) m c, .slice (some ⟨g, off, none⟩) m' c']).run Tryz.prog w = .ok (.value (.bool false)) w :=
    fun off m c m' c' => overlaps_no w q g off m c m' c' r cur hq hg hne (by omega)
  have HG := Lib.hid hg
  have HR := Lib.hid hr
  have HQ := Lib.hid hq
  have HL := Lib.hid hl
  clear hcap hl hr hq hg hcs
  go_enter Tryz.func114, Tryz.ntmps114
  go_wp2_with (simp only [hov])
  clear hov
  have hwr : IntKind.i64.wrap ((i : Int) + 1) = (i : Int) + 1 := by rw [IntKind.wrap_i64]; omega
  have hp0 : (0 : Int) ≤ (i : Int) + 1 := by omega
  have hp1 : (i : Int) + 1 ≤ (i : Int) + ((m : Int) + 1) + 1 := by omega
  have hp2 : ((i : Int) + 1).toNat = i + 1 := by omega
  have hp4 : (i : Int) ≤ (i : Int) + ((m : Int) + 1) + 1 := by omega
  have hp5 : i + (m + 1) + 1 - i = m + 1 + 1 := by omega
  have hp6 : i + (m + 1) + 1 - (i + 1) = m + 1 := by omega
  have hnl : Hid ((rcs (l.drop i)).length = Nat.min (m + 1 + 1) (m + 1) * 2) := Lib.hid (by rw [rcs_len, List.length_drop, HL.out, show Nat.min (m + 1 + 1) (m + 1) = m + 1 from Nat.min_eq_right (by omega)]; omega)
  have hsrc : Hid (∀ j u, (rcs (l.drop i))[j]? = some u → w.drew.cell? ((⟨g, i * 2, none⟩ : Addr).add j) = some u) := Lib.hid (fun j u hu => by
    rw [Addr.add_lit]
    rw [rcs_drop, List.getElem?_drop] at hu
    have hj : i * 2 + j < (rcs l).length := (List.getElem?_eq_some_iff.1 hu).1
    rw [rcs_len] at hj
    exact (World.ownsRow.cellAt HR.out (i * 2 + j) hj).trans hu)
  have hft : (i + 1) * 2 + (rcs (l.drop i)).length ≤ k * 2 := by rw [rcs_len, List.length_drop, HL.out]; omega
  have HFT := Lib.hid hft
  clear hft
  have hown1 : Hid (w.drew.ownsRow 0 97 2 (.slice (some ⟨g, 0, none⟩) l.length k) l.length (rcs l)) := HR
  go_region_law ((refine step_copy_into rfl (.tmp 73) (.tmp 76) 99 99 rfl i0 Tryz.underlying99 hi0 hz1 ((i + 1) * 2) (m + 1) (k - (i + 1)) ⟨g, i * 2, none⟩ (m + 1 + 1) (k - i) (by simp [Act.eval, Act.put]) (by simp [Act.eval, Act.put]) hown1.out (rcs (l.drop i)) hnl.out hsrc.out HFT.out (rcs_one _) ?_); intro w1 ha1)
  have HA1 := Lib.hid ha1
  clear ha1
  go_wp2
  have hmid := insert_mid l i (by rw [HL.out]; omega)
  have hown2 := HA1.out.2 (l.length + 1) _ (by rw [HL.out]; omega) hmid
  have hq1 : w1.heap[q]? = w.heap[q]? := HA1.out.1.block q (lt_of_heap HQ.out) (fun e => hne (Option.some.inj e))
  obtain ⟨w2, hrun, ha2⟩ := run_copy_into (P := Tryz.prog) (w := w1) (size := 2) 99 98 3 i0 Tryz.underlying99 hi0 hz1 (i * 2) (m + 1 + 1) (k - i) ⟨q, 0, none⟩ 1 1 hown2 (rcs [r]) (by rw [rcs_len, show Nat.min 1 (m + 1 + 1) = 1 from Nat.min_eq_left (by omega)]; rfl) (OneRun.cells HQ.out hq1) (by rw [rcs_len]; simp; omega) (rcs_one _)
  have HA2 := Lib.hid ha2
  clear ha2 hmid hown2 hq1
  rw [hrun]
  simp only [Result.andThen]
  rw [Oper.upon_value]
  clear hrun
  go_wp2_with fail
  go_ret
  have hlen := putAt_len l i r (by rw [HL.out]; omega)
  have hend := insert_end l i r (by rw [HL.out]; omega)
  refine ⟨g, k, by rw [hlen, HL.out]; rfl, ?_, grown_trans' (grown_undrew HA1.out.1) HA2.out.1, .inl rfl⟩
  unfold Runs
  rw [hlen]
  exact HA2.out.2 (l.length + 1) _ (by rw [HL.out]; omega) hend
theorem own_base {w : World} {b : Nat} {e : TypeId} {size n : Nat} {v : Value} {xs : List Value} (h : w.ownsRow b e size v n xs) : w.ownsRow 0 e size v n xs := by
  refine ⟨h.1, ?_⟩
  rcases h.2 with h' | ⟨g, cap, cur, h1, _, h3⟩
  · exact .inl h'
  · exact .inr ⟨g, cap, cur, h1, Nat.zero_le _, h3⟩
theorem grown_new {a b c : World} {p : Nat} (h : a.grownBy b none) (k : b.grownBy c (some p)) (hp : a.heap.size ≤ p) (row : Option Nat) : a.grownBy c row :=
  ⟨k.os.trans h.os, k.tape.trans h.tape, k.output.trans h.output, Nat.le_trans h.size k.size, fun i hi _ => (k.block i (Nat.lt_of_lt_of_le hi h.size) (fun e => by injection e with e; omega)).trans (h.block i hi (by simp))⟩
theorem grow_mid (l : List (Nat × Nat)) (i : Nat) (r : Nat × Nat) (h : i ≤ l.length) : Spliced 2 i (i + 1) (rcs (l.take i)) (i * 2) (rcs [r]) (rcs (l.take i ++ [r])) := by
  have h1 : (l.take i).length = i := by rw [List.length_take]; omega
  have h2 : (l.take i ++ [r]).length = i + 1 := by rw [List.length_append, h1]; rfl
  have hs := spliced_rcs (l.take i) (l.take i ++ [r]) [r] i (fun j hj => ?_)
  · rw [h1, h2] at hs; exact hs
  · rw [h2] at hj
    rw [List.getElem?_append, h1]
    by_cases h3 : j < i
    · exact .inr ⟨.inl h3, h3, if_pos h3⟩
    · exact .inl ⟨by omega, by simp; omega, if_neg h3⟩
theorem grow_end (l : List (Nat × Nat)) (i : Nat) (r : Nat × Nat) (h : i ≤ l.length) : Spliced 2 (i + 1) (l.length + 1) (rcs (l.take i ++ [r])) ((i + 1) * 2) (rcs (l.drop i)) (rcs (putAt l i r)) := by
  have h1 : (l.take i).length = i := by rw [List.length_take]; omega
  have h2 : (l.take i ++ [r]).length = i + 1 := by rw [List.length_append, h1]; rfl
  have h3 := putAt_len l i r h
  have hp : putAt l i r = (l.take i ++ [r]) ++ l.drop i := by simp [putAt]
  have hs := spliced_rcs (l.take i ++ [r]) (putAt l i r) (l.drop i) (i + 1) (fun j hj => ?_)
  · rw [h2, h3] at hs; exact hs
  · rw [h3] at hj
    rw [hp, List.getElem?_append, h2]
    by_cases h4 : j < i + 1
    · exact .inr ⟨.inl h4, h4, if_pos h4⟩
    · exact .inl ⟨by omega, by rw [List.length_drop]; omega, if_neg h4⟩
set_option maxHeartbeats 1000000 in
set_option maxRecDepth 100000 in
theorem insert_grow (g k i m q : Nat) (r : Nat × Nat) (l : List (Nat × Nat)) (w : World) (hr : Runs w g k l) (hq : OneRun w q r) (_hne : q ≠ g) (hl : l.length = i + (m + 1)) (hn : l.length ≤ 65000) (hfull : k < i + (m + 1) + 1) :
    Calls Tryz.prog 114 #[.slice (some ⟨g, 0, none⟩) (i + (m + 1)) k, .int .i64 (i : Int), .slice (some ⟨q, 0, none⟩) 1 1] w (RunsMade g (putAt l i r) w) := by
  obtain ⟨i0, hi0, hz0, hz1, hz2⟩ := info_parts infoRun
  have hcap := hr.cap
  unfold maxLen at hcap
  have B0 : ((i : Int) == (i : Int) + ((m : Int) + 1)) = false := by simp; omega
  have hk2 := hcap.2
  have hk1 : i + (m + 1) ≤ k := by omega
  have hik : ¬ (k = i) := by omega
  have hcut := own_cut hr i (by omega)
  have hb65 : i + (m + 1) ≤ 65000 := by omega
  obtain ⟨w1, k1, ys, hrun1, hown1, hg1⟩ := run_append_make (P := Tryz.prog) 99 3 99 i0 _ .i64 .i64 Tryz.underlying99 Tryz.underlying3 hi0 hz0 hz1 rfl (by decide) hcut (m + 1 + 1) (by omega) (by omega) (by omega) (by omega)
  have HRUN1 := Lib.hid hrun1
  have hk3 : i + (m + 1 + 1) ≤ k1 := by
    obtain ⟨_, _, _, h3, _⟩ := own_open hown1
    exact h3
  have hk4 : k1 ≤ 9223372036854775807 := by
    obtain ⟨_, _, _, _, h4, _⟩ := own_open hown1
    unfold maxLen at h4
    omega
  have hcut1 := own_cut hown1 i (by omega)
  rw [List.take_left' (by rw [List.length_take, rcs_len]; omega), ← rcs_take] at hcut1
  have HOWN1 := Lib.hid hcut1
  have HG1 := Lib.hid hg1
  have HR := Lib.hid hr
  have HQ := Lib.hid hq
  have HL := Lib.hid hl
  clear hcap hl hr hq hrun1 hown1 hg1 hcut hcut1
  have hp4 : i ≤ k := by omega
  have hk5 : ¬ (k1 = i) := by omega
  have hk6 : ¬ (k1 = i + 1) := by omega
  have hp5 : i + (m + 1 + 1) - i = m + 1 + 1 := by omega
  have hp6 : i + (m + 1 + 1) - (i + 1) = m + 1 := by omega
  rw [show ((m + 1 + 1 : Nat) : Int) = (i : Int) + ((m : Int) + 1) + 1 - (i : Int) by omega] at HRUN1
  go_enter Tryz.func114, Tryz.ntmps114
  go_wp2_with (at_builtin; refine Lib.wpList_append_run _ rfl _ _ 99 3 rfl _ _ rfl rfl _ _ HRUN1.out ?_)
  have hq1 : w1.heap[q]? = w.heap[q]? := HG1.out.block q (lt_of_heap HQ.out) (by simp)
  obtain ⟨w2, hrun, ha2⟩ := run_copy_into (P := Tryz.prog) (w := w1) (size := 2) 99 98 3 i0 Tryz.underlying99 hi0 hz1 (i * 2) (m + 1 + 1) (k1 - i) ⟨q, 0, none⟩ 1 1 HOWN1.out (rcs [r]) (by rw [rcs_len, show Nat.min 1 (m + 1 + 1) = 1 from Nat.min_eq_left (by omega)]; rfl) (OneRun.cells HQ.out hq1) (by rw [rcs_len]; simp; omega) (rcs_one _)
  have HA2 := Lib.hid ha2
  clear ha2 hq1
  rw [hrun]
  simp only [Result.andThen]
  rw [Oper.upon_value]
  clear hrun
  have hl1 : (l.take i ++ [r]).length = i + 1 := by rw [List.length_append, List.length_take, HL.out]; simp
  have hown3 := HA2.out.2 (i + 1) (rcs (l.take i ++ [r])) (by omega) (grow_mid l i r (by rw [HL.out]; omega))
  have hgl := Runs.lt HR.out
  have hgl2 := World.ownsRow.lt hown3 w.heap.size rfl
  have hsrc : Hid (∀ j u, (rcs (l.drop i))[j]? = some u → w2.drew.cell? ((⟨g, i * 2, none⟩ : Addr).add j) = some u) := Lib.hid (fun j u hu => by
    rw [Addr.add_lit]
    rw [rcs_drop, List.getElem?_drop] at hu
    have hj : i * 2 + j < (rcs l).length := (List.getElem?_eq_some_iff.1 hu).1
    rw [rcs_len] at hj
    have hb1 : w1.heap[g]? = w.heap[g]? := HG1.out.block g hgl (by simp)
    have hb2 : w2.heap[g]? = w1.heap[g]? := HA2.out.1.block g (Nat.lt_of_lt_of_le hgl HG1.out.size) (fun e => by injection e with e; omega)
    exact (World.cell?_of_block (w := w) (w' := w2.drew) (a := ⟨g, i * 2 + j, none⟩) (hb2.trans hb1)).trans ((World.ownsRow.cellAt HR.out (i * 2 + j) hj).trans hu))
  have HOWN3 : Hid (w2.drew.ownsRow w.heap.size 97 2 (.slice (some ⟨w.heap.size, 0, none⟩) (i + 1) k1) (i + 1) (rcs (l.take i ++ [r]))) := hown3
  have hnl : Hid ((rcs (l.drop i)).length = Nat.min (m + 1) (m + 1) * 2) := Lib.hid (by rw [rcs_len, List.length_drop, HL.out, show Nat.min (m + 1) (m + 1) = m + 1 from Nat.min_eq_right (by omega)]; omega)
  have hft : (i + 1) * 2 + (rcs (l.drop i)).length ≤ k1 * 2 := by rw [rcs_len, List.length_drop, HL.out]; omega
  have HFT := Lib.hid hft
  clear hft hown3 hl1
  have hwr : IntKind.i64.wrap ((i : Int) + 1) = (i : Int) + 1 := by rw [IntKind.wrap_i64]; omega
  have hp0 : (0 : Int) ≤ (i : Int) + 1 := by omega
  have hp1 : (i : Int) + 1 ≤ (i : Int) + ((m : Int) + 1 + 1) := by omega
  have hp2 : ((i : Int) + 1).toNat = i + 1 := by omega
  have hp7 : (i : Int) ≤ (i : Int) + ((m : Int) + 1) := by omega
  have hp8 : i + (m + 1) - i = m + 1 := by omega
  go_wp2_with fail
  go_region_law ((refine step_copy_into rfl (.tmp 50) (.tmp 53) 99 99 rfl i0 Tryz.underlying99 hi0 hz1 ((i + 1) * 2) (m + 1) (k1 - (i + 1)) ⟨g, i * 2, none⟩ (m + 1) (k - i) (by simp [Act.eval, Act.put]) (by simp [Act.eval, Act.put]) HOWN3.out (rcs (l.drop i)) hnl.out hsrc.out HFT.out (rcs_one _) ?_); intro w3 ha3)
  have HA3 := Lib.hid ha3
  clear ha3
  go_wp2_with fail
  go_ret
  have hlen := putAt_len l i r (by rw [HL.out]; omega)
  refine ⟨w.heap.size, k1, by rw [hlen, HL.out]; rfl, ?_, ?_, .inr (Nat.le_refl _)⟩
  · unfold Runs
    rw [hlen]
    exact own_base (HA3.out.2 (l.length + 1) _ (by rw [HL.out]; omega) (grow_end l i r (by rw [HL.out]; omega)))
  · exact grown_new HG1.out (grown_trans' HA2.out.1 (grown_undrew HA3.out.1)) (Nat.le_refl _) _
set_option maxHeartbeats 1000000 in
set_option maxRecDepth 100000 in
theorem insert_last (g k q : Nat) (r : Nat × Nat) (l : List (Nat × Nat)) (w : World) (hr : Runs w g k l) (hq : OneRun w q r) (hn : l.length ≤ 65000) :
    Calls Tryz.prog 114 #[.slice (some ⟨g, 0, none⟩) l.length k, .int .i64 (l.length : Int), .slice (some ⟨q, 0, none⟩) 1 1] w (RunsMade g (putAt l l.length r) w) := by
  obtain ⟨i0, hi0, hz0, hz1, hz2⟩ := info_parts infoRun
  have hcap := hr.cap
  unfold maxLen at hcap
  have hk2 := hcap.2
  have hk1 := hcap.1
  obtain ⟨v', w1, hrun, hown, hgr, _, hat⟩ := run_append_own_at (P := Tryz.prog) w 0 99 99 97 i0 _ 2 16 Tryz.underlying99 hi0 hz0 hz1 hz2 rfl (by decide) _ _ _ hr ⟨q, 0, none⟩ 1 1 (rcs [r]) rfl (OneRun.cells hq rfl) (rcs_one _) (by unfold maxLen; omega) (by omega) (Nat.zero_le _)
  rw [← append_types (P := Tryz.prog) 99 98 99 97 i0 Tryz.underlying99 Tryz.underlying98 hi0] at hrun
  obtain ⟨g', k', rfl⟩ : ∃ g' k', v' = .slice (some ⟨g', 0, none⟩) (l.length + 1) k' := by
    rcases hown.2 with ⟨_, h⟩ | ⟨g', k', _, h, _⟩
    · omega
    · exact ⟨g', k', h⟩
  have HRUN := Lib.hid hrun
  have HL := Lib.hid (show putAt l l.length r = l ++ [r] by simp [putAt])
  have hlen : (putAt l l.length r).length = l.length + 1 := putAt_len _ _ _ (Nat.le_refl _)
  have HM : Hid (RunsMade g (putAt l l.length r) w (.returned (.slice (some ⟨g', 0, none⟩) (l.length + 1) k')) w1) := by
    refine Lib.hid ⟨g', k', by rw [hlen], ?_, hgr, ?_⟩
    · unfold Runs
      rw [hlen, HL.out, rcs_append]
      exact hown
    · simp [Value.ownBlock] at hat
      omega
  obtain ⟨A, hA⟩ : ∃ A : Addr, (if k = l.length then some (⟨g, 0, none⟩ : Addr) else some ⟨g, l.length * 2, none⟩) = some A := by split <;> exact ⟨_, rfl⟩
  clear hcap hr hq hrun hown hgr hat hlen
  go_enter Tryz.func114, Tryz.ntmps114
  go_wp2_with (at_builtin; refine Lib.wpList_append_run _ rfl (.tmp 23) (.tmp 24) 99 98 rfl _ _ rfl rfl _ _ HRUN.out ?_)
  go_ret
  exact HM.out
theorem insert_any (g k i q : Nat) (r : Nat × Nat) (l : List (Nat × Nat)) (w : World) (hr : Runs w g k l) (hq : OneRun w q r) (hne : q ≠ g) (hi : i ≤ l.length) (hn : l.length ≤ 65000) :
    Calls Tryz.prog 114 #[.slice (some ⟨g, 0, none⟩) l.length k, .int .i64 (i : Int), .slice (some ⟨q, 0, none⟩) 1 1] w (RunsMade g (putAt l i r) w) := by
  by_cases h : i = l.length
  · subst h
    exact insert_last g k q r l w hr hq hn
  · obtain ⟨m, hm⟩ : ∃ m, l.length = i + (m + 1) := ⟨l.length - i - 1, by omega⟩
    by_cases hroom : i + (m + 1) + 1 ≤ k
    · have h := insert_room g k i m q r l w hr hq hne hm (by omega) hroom
      rw [← hm] at h
      exact h
    · have h := insert_grow g k i m q r l w hr hq hne hm hn (by omega)
      rw [← hm] at h
      exact h
end Go.Proofs.YtdkbgdjkdalalaaGreatDoor
