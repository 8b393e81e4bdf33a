/-
  The walks of the collector's Step and Finish.
-/
import Derived.Test.YtdkbgdjkdalalaaGreatDoorGSweep
namespace Go.Proofs.YtdkbgdjkdalalaaGreatDoor
open Go.RowKit
theorem sweep_any (g q words : Nat) (U : Nat → Prop) (s : GS) (w : World) (h : GAt w g q U words s) (hT : Tab w) (hp : s.ph = 2) :
    Calls Tryz.prog 92 #[.pointer (some ⟨g, 0, none⟩)] w (GDone g q U words s.step.2 w) := by
  unfold GS.step
  rw [if_neg (by omega), if_pos hp]
  by_cases hn : nextOb s.L s.pos = 0
  · rw [if_pos hn]; exact sweep_end g q words U s w h hT hp hn
  · rw [if_neg hn]
    by_cases hw : s.White (nextOb s.L s.pos)
    · exact sweep_free g q words U s w h hT hp _ rfl hn hw
    · exact sweep_keep g q words U s w h hT hp _ rfl hn hw
theorem mark_any (g q words : Nat) (U : Nat → Prop) (s : GS) (w : World) (h : GAt w g q U words s) (hp : s.ph = 1) :
    Calls Tryz.prog 91 #[.pointer (some ⟨g, 0, none⟩)] w (GDone g q U words s.step.2 w) := by
  unfold GS.step
  rw [if_pos hp]
  by_cases hg : s.G = []
  · rw [if_pos hg]; exact mark_none g q words U s w h hp hg
  · rw [if_neg hg]; exact mark_some g q words U s w h hp hg
def StepIs (g q : Nat) (U : Nat → Prop) (words : Nat) (s : GS) (w : World) (e : Ending) (w' : World) : Prop := e = .returned (.bool s.step.1) ∧ GStep g q U words s.step.2 w w'
theorem GAt.cell1 {w : World} {g q words : Nat} {U : Nat → Prop} {s : GS} (h : GAt w g q U words s) : w.cell? ⟨g, 1, none⟩ = some (.int .i64 (s.ph : Nat)) := by
  obtain ⟨S, c, cs, Q, h⟩ := h
  exact h.queue.head.2.1
theorem step_ends {s : GS} (hp : s.ph = 2) : s.step.1 = decide (s.step.2.ph = 0) := by
  unfold GS.step
  rw [if_neg (by omega), if_pos hp]
  by_cases hn : nextOb s.L s.pos = 0
  · rw [if_pos hn]; rfl
  · rw [if_neg hn]
    show false = decide (s.ph = 0)
    rw [hp]; rfl
theorem step_any (g q words : Nat) (U : Nat → Prop) (s : GS) (w : World) (h : GAt w g q U words s) (hT : Tab w) :
    Calls Tryz.prog 76 #[.pointer (some ⟨g, 0, none⟩)] w (StepIs g q U words s w) := by
  have k1 := h.cell1
  have hph := h.inv.ph
  have hc : s.ph = 0 ∨ s.ph = 1 ∨ s.ph = 2 := by omega
  rcases hc with hp | hp | hp
  · have HE : Hid (StepIs g q U words s w (.returned (.bool false)) w) := Lib.hid (by
      have : s.step = (false, s) := by unfold GS.step; rw [if_neg (by omega), if_neg (by omega)]
      unfold StepIs
      rw [this]
      exact ⟨rfl, .stay h⟩)
    rw [hp] at k1
    clear h hT hp hph
    go_enter Tryz.func76, Tryz.ntmps76
    go_wp2_with fail
    go_ret
    exact HE.out
  · have HM := Lib.hid (mark_any g q words U s w h hp)
    have HF : Hid (s.step.1 = false) := Lib.hid (by unfold GS.step; rw [if_pos hp]; split <;> rfl)
    rw [hp] at k1
    clear h hT hp hph
    go_enter Tryz.func76, Tryz.ntmps76
    go_wp2_with fail
    refine HM.out.mono ?_
    rintro e w' ⟨rfl, hs⟩
    have HS := Lib.hid hs
    clear hs
    go_wp2_with fail
    go_ret
    exact ⟨ret_bool HF.out.symm, HS.out⟩
  · have HM := Lib.hid (sweep_any g q words U s w h hT hp)
    have HF := Lib.hid (step_ends hp)
    rw [hp] at k1
    clear h hT hp hph
    go_enter Tryz.func76, Tryz.ntmps76
    go_wp2_with fail
    refine HM.out.mono ?_
    rintro e w' ⟨rfl, hs⟩
    have m1 := hs.1.cell1
    have HS := Lib.hid hs
    clear hs
    generalize hk : s.step.2.ph = k at *
    clear hk
    by_cases hk0 : k = 0
    · subst hk0
      go_wp2_with fail
      go_ret
      exact ⟨ret_bool (by rw [HF.out]; rfl), HS.out⟩
    · have B1 : ((k : Int) == 0) = false := by rw [beq_eq_false_iff_ne]; omega
      have HF2 : Hid (s.step.1 = false) := Lib.hid (by rw [HF.out]; simp [hk0])
      clear hk0
      go_wp2_with fail
      go_ret
      exact ⟨ret_bool HF2.out.symm, HS.out⟩
theorem Tab.turned {w w' : World} {U : Nat → Prop} (h : Tab w) (ht : Turned U w w') (hU : ¬ U 0) : Tab w' := h.keep (ht.block _ h.lt hU)
def FinIs (g q : Nat) (U : Nat → Prop) (words : Nat) (s : GS) (w : World) (e : Ending) (w' : World) : Prop := ∃ K : Nat, e = .returned (.int .i64 (K : Int)) ∧ EndsAt s K ∧ GStep g q U words (s.run K) w w'
theorem finish_any (g q words : Nat) (U : Nat → Prop) (s : GS) (w : World) (h : GAt w g q U words s) (hT : Tab w) (hU : ¬ U 0) :
    Calls Tryz.prog 66 #[.pointer (some ⟨g, 0, none⟩)] w (FinIs g q U words s w) := by
  have HI := Lib.hid h.inv
  have H0 : Hid (GStep g q U words (s.run 0) w w) := Lib.hid (.stay h)
  have HT := Lib.hid hT
  have hw := h.few
  clear h hT
  go_enter Tryz.func66, Tryz.ntmps66
  go_wp2_with fail
  go_loopw [3] (fun vn wr => ∃ K : Nat, K ≤ 2 * words + 1 ∧ vn = .int .i64 K ∧ Hid (∀ j, j < K → (s.run j).ph ≠ 0) ∧ Hid (GStep g q U words (s.run K) w wr)) (fun vn _ => 2 * words + 2 - (intOf vn).toNat)
  case atStart => exact ⟨0, by omega, by go_num, Lib.hid (fun j hj => by omega), H0⟩
  case round =>
    obtain ⟨K, hK, rfl, HN, HS⟩ := hrel
    clear H0
    have k1 := HS.out.1.cell1
    by_cases h0 : (s.run K).ph = 0
    · have HE : Hid (EndsAt s K) := Lib.hid ⟨h0, HN.out⟩
      rw [h0] at k1
      clear h0
      go_wp2_with fail
      go_ret
      exact ⟨K, rfl, HE.out, HS.out⟩
    · have HN1 : Hid (∀ j, j < K + 1 → (s.run j).ph ≠ 0) := Lib.hid (fun j hj => by
        by_cases hjk : j = K
        · subst hjk; exact h0
        · exact HN.out j (by omega))
      have hK1 := not_left HI.out (K + 1) HN1.out
      have B1 : (((s.run K).ph : Int) != 0) = true := by rw [bne_iff_ne]; omega
      have HST := Lib.hid (step_any g q words _ _ _ HS.out.1 (HT.out.turned HS.out.2 hU))
      clear h0
      generalize (s.run K).ph = p at *
      go_wp2_with fail
      refine HST.out.mono ?_
      rintro e w2 ⟨rfl, hs2⟩
      have HS2 : Hid (GStep g q U words (s.run (K + 1)) w w2) := Lib.hid (HS.out.then hs2)
      clear hs2
      go_wp2_with fail
      go_roundw
      case rel => exact ⟨K + 1, hK1, by go_num, HN1, HS2⟩
      case measure => simp [intOf]; omega
end Go.Proofs.YtdkbgdjkdalalaaGreatDoor
