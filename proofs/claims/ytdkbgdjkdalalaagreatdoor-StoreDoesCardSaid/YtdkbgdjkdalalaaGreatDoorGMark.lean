/-
  The walks of the collector's step while it marks.
-/
import Derived.Test.YtdkbgdjkdalalaaGreatDoorGStep
namespace Go.Proofs.YtdkbgdjkdalalaaGreatDoor
open Go.RowKit
theorem HAt.vals {w : World} {q : Nat} {S : Nat → Prop} {words : Nat} {L : List Ob} (h : HAt w q S words L) : ∀ o ∈ L, ∀ x ∈ o.fs, x < 18446744073709551616 := by
  obtain ⟨Y, _, ⟨cs, ms, rs, _, hr⟩, _⟩ := h
  exact hr.vals
theorem black_color (s : GS) (a b : Nat) : colorOf (s.black a) b = if b = a then 2 else colorOf s b := by
  unfold colorOf GS.black
  simp only [mem_without, List.mem_append, List.mem_singleton]
  by_cases h : b = a
  · simp [h]
  · simp [h]
theorem take_snoc_get {l : List Nat} {i : Nat} (h : i < l.length) : l.take (i + 1) = l.take i ++ [l.getD i 0] := by
  rw [List.take_succ_eq_append_getElem h, List.getD_eq_getElem?_getD, List.getElem?_eq_getElem h]; rfl
theorem kids_some {L : List Ob} {a : Nat} {o : Ob} (h : findOb L a = some o) : kidsOf L a = if o.kind = 1 then [] else o.fs := by unfold kidsOf; rw [h]
set_option maxHeartbeats 1000000 in
set_option maxRecDepth 100000 in
theorem blacken_low (g q words : Nat) (U : Nat → Prop) (s : GS) (w : World) (a : Nat) (hp : s.ph = 1) (hin : IsIn s.L a) (h : ∃ S c cs Q, GMem w g q U words (s.black a) (· = a) S c cs Q) :
    Calls Tryz.prog 100 #[.pointer (some ⟨g, 0, none⟩), .int .i64 (a : Int)] w (GDone g q U words (s.blacken a) w) := by
  obtain ⟨S, c, cs, Q, hm⟩ := h
  have hr := isIn_range hm.inv.lies hin
  obtain ⟨k0, _, k2, _⟩ := hm.queue.head
  have hf := hm.cols.frozen a
  have kc := hm.cols.cell a (by rw [hm.clen]; omega)
  have g1 : (a : Int) < (words : Int) := by omega
  obtain ⟨hm1, ht1⟩ := hm.paint a 2 (fun _ => False) hr.2 (fun b _ hn => hn) (fun _ _ => by rw [black_color, if_pos rfl])
  have hm1 : GMem (w.setCell ⟨c, a, none⟩ (.int .u8 2)) g q U words (s.black a) (fun _ => False) S c (cs.set a 2) Q := hm1
  have ht1 : Turned U w (w.setCell ⟨c, a, none⟩ (.int .u8 2)) := ht1
  have HS1 : Hid (GStep g q U words (s.black a) w (w.setCell ⟨c, a, none⟩ (.int .u8 2))) := Lib.hid ⟨GAt.mono ⟨S, c, _, Q, hm1⟩ fun b hU => .inl hU, ht1⟩
  obtain ⟨o, ho⟩ := isIn_some hin
  have HLD := Lib.hid (leads_low g q words S s.L _ (a : Int) hm1.heap hm1.queue.head.1)
  rw [hKind_at ho] at HLD
  have HB : Hid (s.blacken a = (s.black a).shades (if o.kind = 1 then [] else o.fs)) := Lib.hid (by unfold GS.blacken; rw [kids_some ho])
  have hfl : o.fs.length ≤ 65536 := lies_fields hm.inv.lies hm.small o (find_mem ho).1
  have HSZ := Lib.hid (g_Size q S words s.L _ hm1.heap (a : Int))
  rw [hSize_at ho] at HSZ
  have HO := Lib.hid ho
  have HV := Lib.hid (hm1.heap.vals o (find_mem ho).1)
  have HGET := Lib.hid (fun (i : Int) => hGet_at (L := s.L) i ho)
  clear hm hm1 ht1 ho hin
  by_cases hk : o.kind = 1
  · rw [show decide ((o.kind, (0 : Int)).1 ≠ 1) = false by simp [hk]] at HLD
    rw [if_pos hk] at HB
    generalize cs.getD a 0 = y at *
    clear hk
    go_enter Tryz.func100, Tryz.ntmps100
    go_wp2_with fail
    refine HLD.out.mono ?_
    rintro e w' ⟨rfl, rfl⟩
    go_wp2_with fail
    go_end0
    exact ⟨rfl, by rw [HB.out]; exact HS1.out⟩
  · rw [show decide ((o.kind, (0 : Int)).1 ≠ 1) = true by simp [hk]] at HLD
    rw [if_neg hk] at HB
    generalize cs.getD a 0 = y at *
    clear hk
    have HK0 : Hid ((w.setCell ⟨c, a, none⟩ (.int .u8 2)).cell? ⟨g, 0, none⟩ = some (.pointer (some ⟨q, 0, none⟩))) := Lib.hid (by
      obtain ⟨⟨S', c', cs', Q', hx⟩, _⟩ := HS1.out
      exact hx.queue.head.1)
    go_enter Tryz.func100, Tryz.ntmps100
    go_wp2_with fail
    refine HLD.out.mono ?_
    rintro e w' ⟨rfl, rfl⟩
    go_upto_region 2 with fail
    have j0 := HK0.out
    generalize w.setCell ⟨c, a, none⟩ (.int .u8 2) = w1 at *
    clear k0 k2 hf kc
    go_wp2_with fail
    refine HSZ.out.mono ?_
    rintro e w' ⟨rfl, rfl⟩
    go_wp2_with fail
    go_loopw [29] (fun vi wr => ∃ i : Nat, i ≤ o.fs.length ∧ vi = .int .i64 i ∧ Hid (GStep g q U words ((s.black a).shades (o.fs.take i)) w wr)) (fun vi _ => o.fs.length - (intOf vi).toNat)
    case atStart => exact ⟨0, by omega, by go_num, HS1⟩
    case round =>
      obtain ⟨i, hi, rfl, HSI⟩ := hrel
      clear HS1 HLD HSZ HK0 j0
      by_cases hil : i < o.fs.length
      · have g2 : decide ((i : Int) < (o.fs.length : Int)) = true := by rw [decide_eq_true_iff]; omega
        have hsm := shades_same (s.black a) (o.fs.take i)
        obtain ⟨⟨S', c', cs', Q', hx⟩, htx⟩ := HSI.out
        have j0 := hx.queue.head.1
        have hget := g_Get q _ words _ _ hx.heap (a : Int) (i : Int)
        rw [show ((s.black a).shades (o.fs.take i)).L = s.L from hsm.1, HGET.out (i : Int), if_neg (by omega), Int.toNat_natCast] at hget
        have HGT := Lib.hid hget
        have hxv : o.fs.getD i 0 < 18446744073709551616 := by
          rw [List.getD_eq_getElem?_getD, List.getElem?_eq_getElem hil]
          exact HV.out _ (List.getElem_mem hil)
        have HSH := Lib.hid (shade_any g q words _ _ _ HSI.out.1 (hsm.2.1.trans hp) (o.fs.getD i 0) hxv)
        rw [← shades_more, ← take_snoc_get hil] at HSH
        clear hx htx hsm hget hxv
        generalize o.fs.getD i 0 = x at *
        go_wp2_with fail
        refine HGT.out.mono ?_
        rintro e w' ⟨rfl, rfl⟩
        go_wp2_with fail
        refine HSH.out.mono ?_
        rintro e w2 ⟨rfl, hs2⟩
        have HS2 := Lib.hid (HSI.out.then hs2)
        clear hs2
        go_wp2_with fail
        go_roundw
        case rel => exact ⟨i + 1, by omega, by go_num, HS2⟩
        case measure => simp [intOf]; omega
      · have g2 : decide ((i : Int) < (o.fs.length : Int)) = false := by rw [decide_eq_false_iff_not]; omega
        obtain rfl : i = o.fs.length := by omega
        go_wp2_with fail
        go_end0
        have := HSI.out
        rw [List.take_length] at this
        exact ⟨rfl, by rw [HB.out]; exact this⟩
theorem GStep.after {w w1 w2 : World} {g q words : Nat} {U : Nat → Prop} {t : GS} (h : Turned U w w1) (k : GStep g q (fun b => U b ∨ w.heap.size ≤ b) words t w1 w2) : GStep g q U words t w w2 := by
  refine ⟨k.1.mono ?_, h.then k.2 fun i hi => hi⟩
  rintro b ((hU | hb) | hb)
  · exact .inl hU
  · exact .inr hb
  · exact .inr (Nat.le_trans h.size hb)
theorem perm_without {Q' G : List Nat} {x : Nat} (h : (x :: Q').Perm G) (hn : G.Nodup) : Q'.Perm (without G x) := by
  have h1 := (h.nodup_iff.2 hn)
  have h2 := h.filter (fun b => b != x)
  have h3 : (x :: Q').filter (fun b => b != x) = Q' := by
    rw [List.filter_cons_of_neg (by simp)]
    refine List.filter_eq_self.2 fun b hb => ?_
    have := (List.nodup_cons.1 h1).1
    simp only [bne_iff_ne, ne_eq]
    rintro rfl
    exact this hb
  rw [h3] at h2
  exact h2
/-- The head's phase and place are set. -/
theorem QAt.set1 {w : World} {g : Nat} {R : Nat → Prop} {A0 A1 A2 A4 : Value} {Q : List Nat} (h : QAt w g R A0 A1 A2 A4 Q) (v : Value) : QAt (w.setCell ⟨g, 1, none⟩ v) g R A0 v A2 A4 Q := by
  obtain ⟨u, h1, h2, h3⟩ := h
  refine ⟨u, by rw [heap_setCell_same w g 1 _ _ v h1]; rfl, own_keep h2 fun b hb => heap_setCell_other w _ b _ ?_, h3⟩
  obtain ⟨cur, hc⟩ := own_type h2 b hb
  exact blocks_ne hc h1 (by decide)
theorem QAt.set4 {w : World} {g : Nat} {R : Nat → Prop} {A0 A1 A2 A4 : Value} {Q : List Nat} (h : QAt w g R A0 A1 A2 A4 Q) (v : Value) : QAt (w.setCell ⟨g, 4, none⟩ v) g R A0 A1 A2 v Q := by
  obtain ⟨u, h1, h2, h3⟩ := h
  refine ⟨u, by rw [heap_setCell_same w g 4 _ _ v h1]; rfl, own_keep h2 fun b hb => heap_setCell_other w _ b _ ?_, h3⟩
  obtain ⟨cur, hc⟩ := own_type h2 b hb
  exact blocks_ne hc h1 (by decide)
/-- The head alone has changed. -/
theorem GMem.headed {w w' : World} {g q words : Nat} {U : Nat → Prop} {s t : GS} {X S : Nat → Prop} {c : Nat} {cs Q : List Nat} (h : GMem w g q U words s X S c cs Q)
    (hq : QAt w' g (fun b => U b ∧ ¬ S b ∧ b ≠ c) (.pointer (some ⟨q, 0, none⟩)) (.int .i64 (t.ph : Nat)) (.slice (some ⟨c, 0, none⟩) words words) (.int .i64 (t.pos : Nat)) Q) (ht : Turned (· = g) w w')
    (hL : t.L = s.L) (hG : t.G = s.G) (hB : t.B = s.B) (hi : GInv words t) : GMem w' g q U words t X S c cs Q ∧ Turned U w w' := by
  have hb := h.bound
  have hc : ∀ a, colorOf t a = colorOf s a := fun a => by unfold colorOf; rw [hG, hB]
  refine ⟨⟨?_, hq, h.cols.keep (ht.block c hb.1 fun e => h.c_ne e.symm), h.clen, h.small, fun a ha hn => ?_, h.ordered, by rw [hG]; exact h.same, hi, h.inU, h.gU, h.cU, h.gS, h.cS, fun b hS => Nat.lt_of_lt_of_le (h.sb b hS) ht.size⟩, ht.mono fun b hb => by rw [hb]; exact h.gU⟩
  · rw [hL]
    exact h.heap.keep fun b hl hS => ht.block b hl fun e => h.gS (e ▸ hS)
  · rw [hc]
    exact h.col a (hL ▸ ha) hn
def EndsWith (v : Value) (P : World → Prop) (e : Ending) (w' : World) : Prop := e = .returned v ∧ P w'
theorem queue_len {w : World} {g q words : Nat} {U : Nat → Prop} {s : GS} {X S : Nat → Prop} {c : Nat} {cs Q : List Nat} (hm : GMem w g q U words s X S c cs Q) : Q.length ≤ 65536 := by
  have h1 := hm.same.length_eq
  have h2 := nodup_le (m := s.L.map Ob.at_) hm.inv.gnd (fun a ha => by
    obtain ⟨o, ho⟩ := isIn_some (hm.inv.gin a ha)
    have h2 := find_mem ho
    exact List.mem_map.2 ⟨o, h2.1, h2.2⟩)
  have h3 := lies_len hm.inv.lies hm.small
  simp only [List.length_map] at h2
  omega
set_option maxHeartbeats 1000000 in
set_option maxRecDepth 100000 in
theorem mark_none (g q words : Nat) (U : Nat → Prop) (s : GS) (w : World) (h : GAt w g q U words s) (hp : s.ph = 1) (hg : s.G = []) :
    Calls Tryz.prog 91 #[.pointer (some ⟨g, 0, none⟩)] w (GDone g q U words ⟨s.L, 2, s.G, s.B, 0⟩ w) := by
  have hst := h.inv.step
  unfold GS.step at hst
  rw [if_pos hp, if_pos hg] at hst
  obtain ⟨S, c, cs, Q, hm⟩ := h
  obtain rfl : Q = [] := by
    have := hm.same
    rw [hg] at this
    exact this.eq_nil
  obtain ⟨A, cc, k3⟩ := hm.queue.tail
  obtain ⟨_, _, _, _, kf⟩ := hm.queue.head
  have f1 := kf 1
  have f4 := kf 4
  have HG : Hid (GStep g q U words ⟨s.L, 2, s.G, s.B, 0⟩ w ((w.setCell ⟨g, 1, none⟩ (.int .i64 2)).setCell ⟨g, 4, none⟩ (.int .i64 0))) := Lib.hid (by
    obtain ⟨j1, j2⟩ := hm.headed (t := ⟨s.L, 2, s.G, s.B, 0⟩) ((hm.queue.set1 (.int .i64 2)).set4 (.int .i64 0)) (((Turned.refl (· = g) w).setCell ⟨g, 1, none⟩ (.int .i64 2) rfl).setCell ⟨g, 4, none⟩ (.int .i64 0) rfl) rfl rfl rfl hst
    exact ⟨GAt.mono ⟨S, c, cs, [], j1⟩ fun b hU => .inl hU, j2⟩)
  clear hm hst kf
  rw [show ([] : List Nat).length = 0 from rfl] at k3
  go_enter Tryz.func91, Tryz.ntmps91
  go_wp2_with fail
  go_loopw [2] (fun _ wr => Hid (wr = w)) (fun _ _ => 0)
  case atStart => exact Lib.hid rfl
  case round =>
    obtain rfl := hrel.out
    clear hrel
    go_wp2_with fail
    go_end0
    exact ⟨rfl, HG.out⟩
set_option maxHeartbeats 1000000 in
set_option maxRecDepth 100000 in
theorem mark_some (g q words : Nat) (U : Nat → Prop) (s : GS) (w : World) (h : GAt w g q U words s) (hp : s.ph = 1) (hg : s.G ≠ []) :
    Calls Tryz.prog 91 #[.pointer (some ⟨g, 0, none⟩)] w (GDone g q U words (s.blacken (least s.G)) w) := by
  have hls := least_spec hg
  have hin := h.inv.gin _ hls.1
  obtain ⟨S, c, cs, Q, hm⟩ := h
  have hql := queue_len hm
  obtain ⟨n, hn⟩ : ∃ n, Q.length = n + 1 := by
    cases hQ : Q with
    | nil =>
      have := hm.same
      rw [hQ] at this
      exact absurd this.symm.eq_nil hg
    | cons x Q => exact ⟨Q.length, rfl⟩
  obtain ⟨A, cc, k3⟩ := hm.queue.tail
  rw [hn] at k3
  have hx : Q.getD 0 0 = least s.G := by
    refine least_unique (hm.same.mem_iff.1 ?_) fun b hb => ?_
    · rw [List.getD_eq_getElem?_getD, List.getElem?_eq_getElem (by omega)]
      exact List.getElem_mem (by omega)
    · obtain ⟨j, hj, rfl⟩ := List.getElem_of_mem (hm.same.mem_iff.2 hb)
      have := heap_least hm.ordered j hj
      rw [List.getD_eq_getElem?_getD (i := j), List.getElem?_eq_getElem hj] at this
      exact this
  have hpo := pop_any g _ _ _ _ _ Q n w hm.queue hm.ordered (by omega) hn
  have HPO : Hid (Calls Tryz.prog 99 #[.pointer (some ⟨g, 3, none⟩)] w (EndsWith (.int .i64 (least s.G : Nat)) (fun w' => (∃ Q', GMem w' g q (fun b => U b ∨ w.heap.size ≤ b) words (s.black (least s.G)) (· = least s.G) S c cs Q') ∧ Turned U w w'))) := Lib.hid (by
    refine hpo.mono ?_
    rintro e w' ⟨he, Q', hq, ho, hpm⟩
    rw [hx] at hpm he
    obtain ⟨j1, j2⟩ := hm.queued (t := s.black (least s.G)) (Y := (· = least s.G)) hq ho (perm_without (hpm.trans hm.same) hm.inv.gnd) rfl rfl rfl (hm.inv.black hp hls.1) (fun a ha hY => by
      rw [black_color, if_neg hY]
      exact hm.col a ha (not_false_X a))
    exact ⟨he, ⟨Q', j1⟩, j2⟩)
  have hcol : cs.getD (least s.G) 0 = 1 := by
    rw [hm.col _ hin (fun h => h)]
    unfold colorOf
    rw [if_pos hls.1]
  have HV : Hid (isB s.L cs (least s.G : Nat) 1 = true) := Lib.hid (by
    show decide (0 ≤ ((least s.G : Nat) : Int) ∧ IsIn s.L (least s.G) ∧ cs.getD (least s.G) 0 = 1) = true
    exact decide_eq_true ⟨by omega, hin, hcol⟩)
  have HIN := Lib.hid hin
  clear hm hcol hin hls hql hx hpo hg
  generalize hlo : least s.G = lo at *
  have HLO := Lib.hid hlo
  clear hlo
  go_enter Tryz.func91, Tryz.ntmps91
  go_wp2_with fail
  go_loopw [2] (fun _ wr => Hid (wr = w)) (fun _ _ => 0)
  case atStart => exact Lib.hid rfl
  case round =>
    obtain rfl := hrel.out
    clear hrel
    go_wp2_with fail
    refine HPO.out.mono ?_
    rintro e w1 ⟨rfl, ⟨Q1, h1⟩, ht⟩
    have HTU := Lib.hid ht
    obtain ⟨k0, _, k2, _⟩ := h1.queue.head
    have HIS := Lib.hid (is_low g q c words S s.L cs w1 (lo : Nat) 1 h1.heap k0 k2 h1.cols h1.clen h1.small)
    rw [HV.out] at HIS
    have HBL := Lib.hid (blacken_low g q words _ s w1 lo hp HIN.out ⟨S, c, cs, Q1, h1⟩)
    clear h1 ht k0 k2
    go_wp2_with fail
    refine HIS.out.mono ?_
    rintro e w' ⟨rfl, rfl⟩
    go_wp2_with fail
    refine HBL.out.mono ?_
    rintro e w2 ⟨rfl, h2⟩
    have H2 : Hid (GStep g q U words (s.blacken lo) wr w2) := Lib.hid (.after HTU.out h2)
    clear h2
    go_wp2_with fail
    go_end0
    exact ⟨rfl, H2.out⟩
end Go.Proofs.YtdkbgdjkdalalaaGreatDoor
