/-
  The walks of the collector's step while it sweeps; of Step and Finish.
-/
import Derived.Test.YtdkbgdjkdalalaaGreatDoorGMark
namespace Go.Proofs.YtdkbgdjkdalalaaGreatDoor
open Go.RowKit
theorem infoColor : (Tryz.prog.info? 106).map (fun i => (i.zero, i.size, i.bytes)) = some (some (.int .u8 0), 1, 1) := by kernel_rfl
/-- clear of a whole row of one-cell elements. -/
theorem run_clear_zero {P : Program} {w : World} {b e g n cap : Nat} {xs : List Value} {v : Value} (dT ty : TypeId) (i : TypeInfo) (hu : P.underlying dT = some (.slice e)) (hi : P.info? e = some i) (hz : i.zero = some v) (hc : v.cells = #[v]) (h1 : v.oneCell' = true) (m : Nat)
    (hown : w.ownsRow b e 1 (.slice (some ⟨g, 0, none⟩) n cap) n xs) (hfit : m + 1 ≤ cap) :
    ∃ w', (Builtin.clear_ #[dT] ty #[.slice (some ⟨g, 0, none⟩) (m + 1) (m + 1)]).run P w = .ok (.tuple #[]) w' ∧ After w w' b e 1 g n cap xs 0 (List.replicate (m + 1) v) := by
  have hv : (Builtin.zeroCells v.cells (m + 1)).toList = List.replicate (m + 1) v := by
    rw [hc]
    have := toList_madeCells_one v (m + 1)
    rw [← this]
    unfold Builtin.zeroCells madeCells
    simp
  obtain ⟨w', hr, ha⟩ := own_store (P := P) hown 0 (List.replicate (m + 1) v) (by simp; omega) (by simp [h1])
  refine ⟨w', ?_, ha⟩
  rw [← hv] at hr
  simp [Builtin.clear_, run_underlying hu, zeroValue, typeInfo, hi, hz, hr]
theorem GMem.recolor {w w' : World} {g q words : Nat} {U : Nat → Prop} {s : GS} {X Y S : Nat → Prop} {c : Nat} {cs cs' Q : List Nat} (h : GMem w g q U words s X S c cs Q) (hn : Nums w' .u8 106 c words cs') (hl : cs'.length = words) (hg : w.grownBy w' (some c))
    (hc : ∀ a, IsIn s.L a → ¬ Y a → cs'.getD a 0 = colorOf s a) : GMem w' g q U words s Y S c cs' Q ∧ Turned U w w' := by
  refine ⟨⟨h.heap.keep fun b hl hS => hg.block b hl (fun e => h.cS (by rw [← Option.some.inj e]; exact hS)), ?_, hn, hl, h.small, hc, h.ordered, h.same, h.inv, h.inU, h.gU, h.cU, h.gS, h.cS, fun b hS => Nat.lt_of_lt_of_le (h.sb b hS) hg.size⟩, ?_⟩
  · exact h.queue.keep (hg.block g h.queue.lt fun e => h.c_ne (Option.some.inj e)) fun b hl hR _ => hg.block b hl (fun e => hR.2.2 (Option.some.inj e))
  · exact (Turned.of_grown hg).mono fun b hb => by rw [hb]; exact h.cU
theorem HAt.two {w : World} {q : Nat} {S : Nat → Prop} {words : Nat} {L : List Ob} (h : HAt w q S words L) : 2 ≤ words := by
  obtain ⟨Y, _, ⟨cs, ms, rs, _, hr⟩, _⟩ := h
  exact hr.two
theorem GAt.draws {w : World} {g q words : Nat} {U : Nat → Prop} {s : GS} (h : GAt w g q U words s) (n : Nat) : GAt (w.drewN n) g q U words s := h.below (below_draws (Below.refl _ _) n)
theorem getD_replicate (n k : Nat) : (List.replicate n 0).getD k 0 = 0 := by
  simp only [List.getD_eq_getElem?_getD, List.getElem?_replicate]
  split <;> rfl
theorem next_quiet (q words : Nat) (S : Nat → Prop) (L : List Ob) (w : World) (h : HAt w q S words L) (hT : Tab w) (p : Nat) (hp : p ≤ 65537) (n : Nat) :
    Calls Tryz.prog 101 #[.pointer (some ⟨q, 0, none⟩), .int .i64 (p : Int)] (w.drewN n) fun e w' => e = .returned (.int .i64 (nextOb L p : Nat)) ∧ w' = w.drewN n := by
  have := g_Next q S words L (w.drewN n) (h.below (below_draws (Below.refl _ _) n)) p (hT.below (below_draws (Below.refl _ w) n) hT.lt) (by omega)
  rw [Int.toNat_natCast] at this
  exact this.mono fun e w' ⟨he, hw⟩ => ⟨he, hw.symm⟩
set_option maxHeartbeats 1000000 in
set_option maxRecDepth 100000 in
theorem sweep_end (g q words : Nat) (U : Nat → Prop) (s : GS) (w : World) (h : GAt w g q U words s) (hT : Tab w) (hp : s.ph = 2) (hn : nextOb s.L s.pos = 0) :
    Calls Tryz.prog 92 #[.pointer (some ⟨g, 0, none⟩)] w (GDone g q U words ⟨s.L, 0, s.G, s.B, s.pos⟩ w) := by
  obtain ⟨i0, hi0, hz0, hz1, hz2⟩ := info_parts infoColor
  have hst := h.inv.step
  unfold GS.step at hst
  rw [if_neg (by omega), if_pos hp, if_pos hn] at hst
  have hGA := h
  obtain ⟨S, c, cs, Q, hm⟩ := h
  obtain ⟨m, rfl⟩ : ∃ m, words = m + 1 := ⟨words - 1, by have := hm.heap.two; omega⟩
  obtain ⟨k0, _, k2, k4, kf⟩ := hm.queue.head
  have f1 := kf 1
  have hpos : s.pos ≤ 65537 := by have := hm.inv.pos; have := hm.small; omega
  have HNX : Hid (∀ n, Calls Tryz.prog 101 #[.pointer (some ⟨q, 0, none⟩), .int .i64 (s.pos : Int)] (w.drewN n) fun e w' => e = .returned (.int .i64 0) ∧ w' = w.drewN n) := Lib.hid (fun n => by
    have := next_quiet q _ S s.L w hm.heap hT s.pos hpos n
    rw [hn] at this
    exact this)
  have HG := Lib.hid hGA
  have HST := Lib.hid hst
  clear hm hst hT hGA kf hn
  generalize hps : s.pos = p at *
  have HPS := Lib.hid hps
  clear hps
  go_enter Tryz.func92, Tryz.ntmps92
  go_wp2_with fail
  go_quiet ((go_at_call 101; exact Calls.quiet_of_same (HNX.out _)))
  go_wp2_with fail
  generalize hwq : w.drewN _ = wq at *
  have HGQ : Hid (∃ S c' cs Q, GMem wq g q U (m + 1) s (fun _ => False) S c' cs Q) := Lib.hid (by rw [← hwq]; exact HG.out.draws _)
  have HTQ : Hid (Turned U w wq) := Lib.hid (by rw [← hwq]; exact Turned.of_below (below_draws (Below.refl _ _) _))
  have HC : Hid (wq.cell? ⟨g, 2, none⟩ = some (.slice (some ⟨c, 0, none⟩) (m + 1) (m + 1))) := Lib.hid (by rw [← hwq]; exact k2)
  clear hwq
  obtain ⟨S', c', cs', Q', hmq⟩ := HGQ.out
  obtain rfl : c' = c := by
    have h1 := hmq.queue.head.2.2.1
    rw [HC.out] at h1
    simpa using h1.symm
  obtain ⟨w2, hrun, ha⟩ := run_clear_zero (P := Tryz.prog) (w := wq) 102 0 i0 Tryz.underlying102 hi0 hz0 rfl rfl m hmq.cols (Nat.le_refl _)
  rw [hrun]
  simp only [Result.andThen]
  rw [Oper.upon_value]
  clear hrun
  have hcells : Nums w2 .u8 106 c' (m + 1) (List.replicate (m + 1) 0) := by
    have h1 := ha.2 (m + 1) (nums .u8 (List.replicate (m + 1) 0)) (Nat.le_refl _) ⟨by simp [nums], fun j hj => .inl ⟨Nat.zero_le _, by simp; omega, by simp [nums]⟩⟩
    unfold Nums
    rw [List.length_replicate]
    exact h1
  have hG0 : s.G = [] := HST.out.gnil (show (0 : Nat) ≠ 1 by decide)
  have hB0 : s.B = [] := HST.out.bnil rfl
  obtain ⟨hm2, ht2⟩ := hmq.recolor (Y := fun _ => False) hcells (by simp) ha.1 (fun a _ _ => by
    rw [getD_replicate]
    unfold colorOf
    rw [hG0, hB0]; simp)
  have hf := hm2.queue.head.2.2.2.2
  have f1 := hf 1
  have HE : Hid (GStep g q U (m + 1) ⟨s.L, 0, s.G, s.B, p⟩ w (w2.setCell ⟨g, 1, none⟩ (.int .i64 0))) := Lib.hid (by
    obtain ⟨j1, j2⟩ := hm2.headed (t := ⟨s.L, 0, s.G, s.B, p⟩) (by rw [← HPS.out]; exact hm2.queue.set1 (.int .i64 0)) ((Turned.refl (· = g) w2).setCell ⟨g, 1, none⟩ (.int .i64 0) rfl) rfl rfl rfl HST.out
    exact ⟨GAt.mono ⟨S', c', _, Q', j1⟩ fun b hU => .inl hU, (HTQ.out.trans ht2).trans j2⟩)
  have j1 := hm2.queue.head.2.1
  have j0 := hm2.queue.head.1
  clear hmq ha hcells hm2 ht2 hf HGQ HTQ HC hG0 hB0
  go_wp2_with fail
  go_end0
  exact ⟨rfl, HE.out⟩
/-- The heap has changed, and nothing else of the collector. -/
theorem GMem.heaped {w w' : World} {g q words : Nat} {U : Nat → Prop} {s t : GS} {X Y S : Nat → Prop} {c : Nat} {cs Q : List Nat} (h : GMem w g q U words s X S c cs Q) (hs : HStep q S words t.L w w') (hph : t.ph = s.ph) (hpos : t.pos = s.pos) (hG : t.G = s.G) (hi : GInv words t)
    (hc : ∀ a, IsIn t.L a → ¬ Y a → cs.getD a 0 = colorOf t a) : GMem w' g q (fun b => U b ∨ w.heap.size ≤ b) words t Y (fun b => (S b ∨ w.heap.size ≤ b) ∧ b < w'.heap.size) c cs Q ∧ Turned U w w' := by
  obtain ⟨h1, h2⟩ := hs
  have hb := h.bound
  refine ⟨⟨h1.bound, ?_, h.cols.keep (h2.block c hb.1 h.cS), h.clen, h.small, hc, h.ordered, by rw [hG]; exact h.same, hi, ?_, .inl h.gU, .inl h.cU, ?_, ?_, fun b hS => hS.2⟩, h2.mono h.inU⟩
  · rw [hph, hpos]
    have hq1 : QAt w g (fun b => (U b ∨ w.heap.size ≤ b) ∧ ¬ ((S b ∨ w.heap.size ≤ b) ∧ b < w'.heap.size) ∧ b ≠ c) (.pointer (some ⟨q, 0, none⟩)) (.int .i64 (s.ph : Nat)) (.slice (some ⟨c, 0, none⟩) words words) (.int .i64 (s.pos : Nat)) Q := h.queue.mono fun b hl hR => ⟨.inl hR.1, (by
      rintro ⟨hS | hz, _⟩
      · exact hR.2.1 hS
      · omega), hR.2.2⟩
    refine hq1.keep (h2.block g hb.2 h.gS) fun b hl hR _ => h2.block b hl fun hS => hR.2.1 ⟨.inl hS, Nat.lt_of_lt_of_le hl h2.size⟩
  · rintro b ⟨hS | hz, _⟩
    · exact .inl (h.inU b hS)
    · exact .inr hz
  · rintro ⟨hS | hz, _⟩
    · exact h.gS hS
    · omega
  · rintro ⟨hS | hz, _⟩
    · exact h.cS hS
    · omega
set_option maxHeartbeats 1000000 in
set_option maxRecDepth 100000 in
theorem sweep_keep (g q words : Nat) (U : Nat → Prop) (s : GS) (w : World) (h : GAt w g q U words s) (hT : Tab w) (hp : s.ph = 2) (a : Nat) (hn : nextOb s.L s.pos = a) (ha0 : a ≠ 0) (hw : ¬ s.White a) :
    Calls Tryz.prog 92 #[.pointer (some ⟨g, 0, none⟩)] w (GDone g q U words (s.sweep a) w) := by
  have hst := h.inv.step
  unfold GS.step at hst
  rw [if_neg (by omega), if_pos hp, if_neg (by rw [hn]; exact ha0), hn] at hst
  have hin : IsIn s.L a := by
    rcases next_facts h.inv.lies (Nat.le_refl _) s.pos with ⟨k1, _⟩ | ⟨k1, _⟩
    · exact absurd (hn.symm.trans k1) ha0
    · rw [hn] at k1; exact k1
  have hG0 := h.inv.gnil (by omega)
  have hr := isIn_range h.inv.lies hin
  have hGA := h
  obtain ⟨S, c, cs, Q, hm⟩ := h
  obtain ⟨k0, _, k2, k4, kf⟩ := hm.queue.head
  have hpos : s.pos ≤ 65537 := by have := hm.inv.pos; have := hm.small; omega
  have HNX : Hid (∀ n, Calls Tryz.prog 101 #[.pointer (some ⟨q, 0, none⟩), .int .i64 (s.pos : Int)] (w.drewN n) fun e w' => e = .returned (.int .i64 (a : Int)) ∧ w' = w.drewN n) := Lib.hid (fun n => by
    have := next_quiet q _ S s.L w hm.heap hT s.pos hpos n
    rw [hn] at this
    exact this)
  have hce : cs.getD a 0 = colorOf s a := hm.col a hin fun h => h
  have hcn : colorOf s a ≠ 0 := fun he => hw ⟨hin, color_white.1 he⟩
  have kc := hm.cols.cell a (by rw [hm.clen]; omega)
  have kcf := hm.cols.frozen a
  have g1 : (a : Int) < (words : Int) := by omega
  have B0 : ((a : Int) == 0) = false := by rw [beq_eq_false_iff_ne]; omega
  have B1 : ((cs.getD a 0 : Int) == 0) = false := by rw [beq_eq_false_iff_ne]; omega
  have HE : Hid (∀ n, GStep g q U words (s.sweep a) w (((w.drewN n).setCell ⟨c, a, none⟩ (.int .u8 0)).setCell ⟨g, 4, none⟩ (.int .i64 ((a : Int) + 1)))) := Lib.hid (fun n => by
    have hmq := hm.keep (w' := w.drewN n) (Nat.le_refl _) fun _ _ _ => rfl
    obtain ⟨hm1, ht1⟩ := hmq.cols.set a 0
    obtain ⟨j1, j2⟩ := hmq.recolor (Y := (· = a)) hm1 (by rw [List.length_set]; exact hm.clen) ht1 (fun b hb hY => by
      rw [getD_set_nat, if_neg fun hx => hY hx.1]
      exact hm.col b hb fun h => h)
    have hL : (s.sweep a).L = s.L := by unfold GS.sweep; rw [if_neg hw]
    have hq4 := j1.queue.set4 (.int .i64 ((a : Int) + 1))
    have hcol : ∀ b, IsIn s.L b → (cs.set a 0).getD b 0 = colorOf (s.sweep a) b := fun b hb => by
      have hcs : colorOf (s.sweep a) b = if b = a then 0 else colorOf s b := by
        unfold colorOf GS.sweep
        simp only [hG0, mem_without]
        by_cases he : b = a
        · simp [he]
        · simp [he]
      rw [hcs, getD_set_nat]
      by_cases he : b = a
      · rw [if_pos he, if_pos ⟨he, by rw [hm.clen]; exact hr.2⟩]
      · rw [if_neg he, if_neg fun hx => he hx.1]
        exact hm.col b hb fun h => h
    have hb := j1.bound
    have ht4 : Turned (· = g) ((w.drewN n).setCell ⟨c, a, none⟩ (.int .u8 0)) (((w.drewN n).setCell ⟨c, a, none⟩ (.int .u8 0)).setCell ⟨g, 4, none⟩ (.int .i64 ((a : Int) + 1))) := (Turned.refl (· = g) _).setCell ⟨g, 4, none⟩ _ rfl
    refine ⟨GAt.mono ⟨S, c, _, Q, ⟨?_, hq4, j1.cols.keep (ht4.block c hb.1 fun e => j1.c_ne e.symm), j1.clen, j1.small, fun b hb _ => hcol b (hL ▸ hb), j1.ordered, j1.same, hst, j1.inU, j1.gU, j1.cU, j1.gS, j1.cS, fun b hS => Nat.lt_of_lt_of_le (j1.sb b hS) ht4.size⟩⟩ fun b hU => .inl hU, ?_⟩
    · rw [hL]
      exact j1.heap.keep fun b hl hS => ht4.block b hl fun e => j1.gS (e ▸ hS)
    · exact ((Turned.of_below (below_draws (Below.refl _ _) n)).trans j2).trans (ht4.mono fun b hb => by rw [hb]; exact hm.gU))
  have f4 := kf 4
  have hab : a ≤ 65536 := by have := hm.small; omega
  have hgc := hm.c_ne
  have hcg := hgc.symm
  clear hm hst hT hGA kf hn hce hcn hin hr hG0 hw
  generalize hps : s.pos = p at *
  clear hps
  generalize cs.getD a 0 = y at *
  go_enter Tryz.func92, Tryz.ntmps92
  go_wp2_with fail
  go_quiet ((go_at_call 101; exact Calls.quiet_of_same (HNX.out _)))
  go_wp2_with fail
  go_end0
  exact ⟨rfl, HE.out _⟩
set_option maxHeartbeats 1000000 in
set_option maxRecDepth 100000 in
theorem sweep_free (g q words : Nat) (U : Nat → Prop) (s : GS) (w : World) (h : GAt w g q U words s) (hT : Tab w) (hp : s.ph = 2) (a : Nat) (hn : nextOb s.L s.pos = a) (ha0 : a ≠ 0) (hw : s.White a) :
    Calls Tryz.prog 92 #[.pointer (some ⟨g, 0, none⟩)] w (GDone g q U words (s.sweep a) w) := by
  have hst := h.inv.step
  unfold GS.step at hst
  rw [if_neg (by omega), if_pos hp, if_neg (by rw [hn]; exact ha0), hn] at hst
  have hin := hw.1
  have hG0 := h.inv.gnil (by omega)
  have hr := isIn_range h.inv.lies hin
  have hGA := h
  obtain ⟨S, c, cs, Q, hm⟩ := h
  obtain ⟨k0, _, k2, k4, kf⟩ := hm.queue.head
  have hpos : s.pos ≤ 65537 := by have := hm.inv.pos; have := hm.small; omega
  have HNX : Hid (∀ n, Calls Tryz.prog 101 #[.pointer (some ⟨q, 0, none⟩), .int .i64 (s.pos : Int)] (w.drewN n) fun e w' => e = .returned (.int .i64 (a : Int)) ∧ w' = w.drewN n) := Lib.hid (fun n => by
    have := next_quiet q _ S s.L w hm.heap hT s.pos hpos n
    rw [hn] at this
    exact this)
  have hce : cs.getD a 0 = colorOf s a := hm.col a hin fun h => h
  have hcn : colorOf s a = 0 := color_white.2 hw.2
  have kc := hm.cols.cell a (by rw [hm.clen]; omega)
  have g1 : (a : Int) < (words : Int) := by omega
  have B0 : ((a : Int) == 0) = false := by rw [beq_eq_false_iff_ne]; omega
  rw [hce, hcn] at kc
  have hab : a ≤ 65536 := by have := hm.small; omega
  have HM : Hid (GMem w g q U words s (fun _ => False) S c cs Q) := Lib.hid hm
  have HST := Lib.hid hst
  have HW := Lib.hid hw
  have HG0 := Lib.hid hG0
  clear hm hst hT hGA kf hn hce hcn hin hG0 hw
  generalize hps : s.pos = p at *
  clear hps
  go_enter Tryz.func92, Tryz.ntmps92
  go_wp2_with fail
  go_quiet ((go_at_call 101; exact Calls.quiet_of_same (HNX.out _)))
  go_wp2_with fail
  generalize hwq : w.drewN _ = wq at *
  have HMQ : Hid (GMem wq g q U words s (fun _ => False) S c cs Q) := Lib.hid (by rw [← hwq]; exact HM.out.keep (Nat.le_refl _) fun _ _ _ => rfl)
  have HTQ : Hid (Turned U w wq) := Lib.hid (by rw [← hwq]; exact Turned.of_below (below_draws (Below.refl _ _) _))
  clear hwq HM HNX
  have hfr := g_Free q S words s.L wq HMQ.out.heap (a : Int)
  obtain ⟨o, ho⟩ := isIn_some HW.out.1
  rw [hFree_at ho] at hfr
  refine hfr.mono ?_
  clear hfr ho
  rintro e w2 ⟨rfl, hs2⟩
  have HE : Hid ((∀ i, w2.frozen? ⟨g, i, none⟩ = false) ∧ w2.cell? ⟨g, 2, none⟩ = some (.slice (some ⟨c, 0, none⟩) words words) ∧ w2.frozen? ⟨c, a, none⟩ = false ∧ (∃ y, w2.cell? ⟨c, a, none⟩ = some y) ∧ (∃ y, (w2.setCell ⟨c, a, none⟩ (.int .u8 0)).cell? ⟨g, 4, none⟩ = some y) ∧
      (∀ i, (w2.setCell ⟨c, a, none⟩ (.int .u8 0)).frozen? ⟨g, i, none⟩ = false) ∧ GStep g q U words (s.sweep a) w ((w2.setCell ⟨c, a, none⟩ (.int .u8 0)).setCell ⟨g, 4, none⟩ (.int .i64 ((a : Int) + 1)))) := Lib.hid (by
    have hd := drop_facts HMQ.out.inv.lies HW.out.1
    have hL : (s.sweep a).L = dropOb s.L a := by unfold GS.sweep; rw [if_pos HW.out]
    have hbb : ∀ b, b ∈ s.B → b ≠ a := fun b hb he => HW.out.2.2 (he ▸ hb)
    have hwo : without s.B a = s.B := List.filter_eq_self.2 fun b hb => by simp [hbb b hb]
    have hcol : ∀ b, colorOf (s.sweep a) b = colorOf s b := fun b => by
      unfold colorOf GS.sweep
      simp only [hwo]
    have hinv1 : GInv words (s.put (dropOb s.L a)) := by
      have h := HST.out
      refine ⟨hd.1, HMQ.out.inv.ph, fun b hb => ?_, fun b hb => ?_, HMQ.out.inv.gnd, HMQ.out.inv.bnd, HMQ.out.inv.apart, HMQ.out.inv.gnil, HMQ.out.inv.bnil, HMQ.out.inv.bpos, HMQ.out.inv.pos⟩
      · have hb : b ∈ s.G := hb
        rw [HG0.out] at hb; cases hb
      · unfold IsIn
        show (findOb (dropOb s.L a) b).isSome = true
        rw [hd.2, if_neg (hbb b hb)]
        exact HMQ.out.inv.bin b hb
    obtain ⟨j1, j2⟩ := HMQ.out.heaped (t := s.put (dropOb s.L a)) (Y := fun _ => False) hs2 rfl rfl rfl hinv1 (fun b hb _ => by
      have hb' : b ≠ a ∧ IsIn s.L b := by
        have hb : (findOb (dropOb s.L a) b).isSome = true := hb
        rw [hd.2] at hb
        by_cases he : b = a
        · rw [if_pos he] at hb; cases hb
        · rw [if_neg he] at hb; exact ⟨he, hb⟩
      exact HMQ.out.col b hb'.2 fun h => h)
    obtain ⟨hm1, ht1⟩ := j1.cols.set a 0
    obtain ⟨i1, i2⟩ := j1.recolor (Y := fun _ => False) hm1 (by rw [List.length_set]; exact j1.clen) ht1 (fun b hb _ => by
      have hb' : b ≠ a := by
        have hb : (findOb (dropOb s.L a) b).isSome = true := hb
        rw [hd.2] at hb
        rintro rfl
        rw [if_pos rfl] at hb; cases hb
      rw [getD_set_nat, if_neg fun hx => hb' hx.1]
      exact j1.col b hb fun h => h)
    have hq4 := i1.queue.set4 (.int .i64 ((a : Int) + 1))
    have hb := i1.bound
    have ht4 : Turned (· = g) (w2.setCell ⟨c, a, none⟩ (.int .u8 0)) ((w2.setCell ⟨c, a, none⟩ (.int .u8 0)).setCell ⟨g, 4, none⟩ (.int .i64 ((a : Int) + 1))) := (Turned.refl (· = g) _).setCell ⟨g, 4, none⟩ _ rfl
    refine ⟨j1.queue.head.2.2.2.2, j1.queue.head.2.2.1, j1.cols.frozen a, ⟨_, j1.cols.cell a (by rw [j1.clen]; exact hr.2)⟩, ⟨_, i1.queue.head.2.2.2.1⟩, i1.queue.head.2.2.2.2, ?_⟩
    refine GStep.after HTQ.out ⟨GAt.mono ⟨_, c, _, Q, ⟨?_, hq4, i1.cols.keep (ht4.block c hb.1 fun e => i1.c_ne e.symm), i1.clen, i1.small, fun b hb _ => ?_, i1.ordered, i1.same, HST.out, i1.inU, i1.gU, i1.cU, i1.gS, i1.cS, fun b hS => Nat.lt_of_lt_of_le (i1.sb b hS) ht4.size⟩⟩ ?_, ?_⟩
    · rw [hL]
      exact i1.heap.keep fun b hl hS => ht4.block b hl fun e => i1.gS (e ▸ hS)
    · rw [hcol]
      exact i1.col b (by rw [hL] at hb; exact hb) fun h => h
    · rintro b (hU | hz)
      · exact .inl (.inl hU)
      · exact .inr hz
    · refine ((j2.mono fun b hU => .inl hU).then i2 ?_).then ht4 ?_
      · rintro b (hU | hz)
        · exact .inl (.inl hU)
        · exact .inr hz
      · rintro b rfl
        exact .inl (.inl HMQ.out.gU))
  obtain ⟨m1, m2, m3, ⟨y, m4⟩, ⟨y2, m5⟩, m6, HEE⟩ := HE.out
  have HF := Lib.hid HEE
  have f4 := m6 4
  clear HE HEE m1 m6 hs2 HMQ HST HW HG0
  go_wp2_with fail
  go_end0
  exact ⟨rfl, HF.out⟩
end Go.Proofs.YtdkbgdjkdalalaaGreatDoor
