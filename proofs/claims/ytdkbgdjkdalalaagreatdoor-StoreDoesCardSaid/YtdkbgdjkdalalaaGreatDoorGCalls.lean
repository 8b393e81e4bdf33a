/-
  The walks of the collector's New, Alloc, Write, Begin and Grey.
-/
import Derived.Test.YtdkbgdjkdalalaaGreatDoorGFinish
import Derived.Deep.RegionHeld3
namespace Go.Proofs.YtdkbgdjkdalalaaGreatDoor
open Go.RowKit
def freshOf (s : GS) (a : Nat) : Nat := if s.ph = 1 ∨ (s.ph = 2 ∧ s.pos ≤ a) then 2 else 0
theorem fresh_low (g : Nat) (s : GS) (w : World) (a : Nat) (hph : s.ph ≤ 2) (k1 : w.cell? ⟨g, 1, none⟩ = some (.int .i64 (s.ph : Nat))) (k4 : w.cell? ⟨g, 4, none⟩ = some (.int .i64 (s.pos : Nat))) :
    Calls Tryz.prog 65 #[.pointer (some ⟨g, 0, none⟩), .int .i64 (a : Int)] w fun e w' => e = .returned (.int .u8 (freshOf s a : Nat)) ∧ w = w' := by
  have hc : s.ph = 0 ∨ s.ph = 1 ∨ s.ph = 2 := by omega
  rcases hc with hp | hp | hp
  · have HV : Hid (freshOf s a = 0) := Lib.hid (by unfold freshOf; rw [if_neg (by omega)])
    rw [hp] at k1
    clear hp hph
    go_enter Tryz.func65, Tryz.ntmps65
    go_wp2_with fail
    go_ret
    exact ⟨ret_int (by rw [HV.out]; rfl), rfl⟩
  · have HV : Hid (freshOf s a = 2) := Lib.hid (by unfold freshOf; rw [if_pos (.inl hp)])
    rw [hp] at k1
    clear hp hph
    go_enter Tryz.func65, Tryz.ntmps65
    go_wp2_with fail
    go_ret
    exact ⟨ret_int (by rw [HV.out]; rfl), rfl⟩
  · by_cases hpa : s.pos ≤ a
    · have HV : Hid (freshOf s a = 2) := Lib.hid (by unfold freshOf; rw [if_pos (.inr ⟨hp, hpa⟩)])
      rw [hp] at k1
      generalize s.pos = p at *
      have B1 : decide ((p : Int) ≤ (a : Int)) = true := by rw [decide_eq_true_iff]; omega
      clear hp hph
      go_enter Tryz.func65, Tryz.ntmps65
      go_wp2_with fail
      go_ret
      exact ⟨ret_int (by rw [HV.out]; rfl), rfl⟩
    · have HV : Hid (freshOf s a = 0) := Lib.hid (by unfold freshOf; rw [if_neg (by omega)])
      rw [hp] at k1
      generalize s.pos = p at *
      have B1 : decide ((p : Int) ≤ (a : Int)) = false := by rw [decide_eq_false_iff_not]; omega
      have B2 : decide (p ≤ a) = false := by rw [decide_eq_false_iff_not]; omega
      clear hp hph
      go_enter Tryz.func65, Tryz.ntmps65
      go_wp2_with fail
      go_ret
      exact ⟨ret_int (by rw [HV.out]; rfl), rfl⟩
def GAllocIs (g q : Nat) (U : Nat → Prop) (words : Nat) (r : Int × Int × GS) (w : World) (e : Ending) (w' : World) : Prop := e = .returned (.tuple #[.int .i64 r.1, .int .i64 r.2.1]) ∧ GStep g q U words r.2.2 w w'
set_option maxHeartbeats 1000000 in
set_option maxRecDepth 100000 in
theorem galloc_any (g q words : Nat) (U : Nat → Prop) (s : GS) (w : World) (h : GAt w g q U words s) (k n : Int) :
    Calls Tryz.prog 32 #[.pointer (some ⟨g, 0, none⟩), .int .i64 k, .int .i64 n] w (GAllocIs g q U words (s.alloc words k n) w) := by
  obtain ⟨S, c, cs, Q, hm⟩ := h
  have k0 := hm.queue.head.1
  have hal := g_Alloc q S words s.L w hm.heap k n
  rcases alloc_facts k n hm.inv.lies with ⟨err, he, ha⟩ | ⟨a, kk, nn, L', ha, rfl, rfl, _, _, hl, hnone, hf, _⟩
  · rw [ha] at hal
    have HV : Hid (s.alloc words k n = (0, err, s)) := Lib.hid (by unfold GS.alloc; rw [ha, if_neg he])
    have HAL := Lib.hid hal
    have HM := Lib.hid hm
    have B1 : (err != 0) = true := by rw [bne_iff_ne]; exact he
    clear hal ha he hm
    go_enter Tryz.func32, Tryz.ntmps32
    go_wp2_with fail
    refine HAL.out.mono ?_
    rintro e w2 ⟨rfl, hs⟩
    have HS : Hid (GStep g q U words s w w2) := Lib.hid (by
      obtain ⟨j1, j2⟩ := HM.out.heaped (t := s) (Y := fun _ => False) hs rfl rfl rfl HM.out.inv HM.out.col
      exact ⟨⟨_, c, cs, Q, j1⟩, j2⟩)
    clear hs
    go_wp2_with fail
    go_ret2
    exact ⟨by rw [HV.out]; rfl, by rw [HV.out]; exact HS.out⟩
  · rw [ha] at hal
    have HV : Hid (s.alloc words (kk : Int) (nn : Int) = ((a : Int), 0, s.laid L' a)) := Lib.hid (by unfold GS.alloc; rw [ha, if_pos rfl]; rfl)
    have HAL := Lib.hid hal
    have HM := Lib.hid hm
    have HI := Lib.hid (hm.inv.laid hl hnone hf)
    have hna : ¬ IsIn s.L a := not_isIn.2 hnone
    have hia : IsIn L' a := isIn_of (by rw [hf, if_pos rfl])
    have hr := isIn_range hl hia
    have HCO : Hid (∀ b, colorOf (s.laid L' a) b = if b = a then freshOf s a else colorOf s b) := Lib.hid (fun b => by
      unfold colorOf GS.laid freshOf
      have hg : a ∉ s.G := fun hx => hna (hm.inv.gin a hx)
      have hb : a ∉ s.B := fun hx => hna (hm.inv.bin a hx)
      by_cases he : b = a
      · subst he
        rw [if_neg hg, if_pos rfl]
        by_cases hc : s.ph = 1 ∨ (s.ph = 2 ∧ s.pos ≤ b)
        · simp [hc]
        · simp [hc, hb]
      · rw [if_neg he]
        by_cases hc : s.ph = 1 ∨ (s.ph = 2 ∧ s.pos ≤ a)
        · simp [hc, he]
        · simp [hc])
    have HIF : Hid (∀ b, IsIn L' b → b ≠ a → IsIn s.L b) := Lib.hid (fun b hb hn => by
      unfold IsIn at hb ⊢
      rw [hf, if_neg hn] at hb
      exact hb)
    clear hal ha hm hl hnone hf hna hia
    go_enter Tryz.func32, Tryz.ntmps32
    go_wp2_with fail
    refine HAL.out.mono ?_
    rintro e w2 ⟨rfl, hs⟩
    have hj := HM.out.heaped (t := s.laid L' a) (Y := (· = a)) hs rfl rfl rfl HI.out (fun b hb hn => by
      rw [HCO.out, if_neg hn]
      exact HM.out.col b (HIF.out b hb hn) fun h => h)
    have HJ := Lib.hid hj
    have k1 : w2.cell? ⟨g, 1, none⟩ = some (.int .i64 (s.ph : Nat)) := hj.1.queue.head.2.1
    have k2 := hj.1.queue.head.2.2.1
    have k4 : w2.cell? ⟨g, 4, none⟩ = some (.int .i64 (s.pos : Nat)) := hj.1.queue.head.2.2.2.1
    have kc := hj.1.cols.cell a (by rw [hj.1.clen]; exact hr.2)
    have kf := hj.1.cols.frozen a
    have hph : s.ph ≤ 2 := HM.out.inv.ph
    have g1 : (a : Int) < (words : Int) := by omega
    have g0 : (0 : Int) ≤ (a : Int) := by omega
    have hab : a ≤ 65536 := by have := HM.out.small; omega
    have hgc := HM.out.c_ne
    have hcg := hgc.symm
    have E1 : IntKind.i64.wrap (a : Int) = (a : Int) := by rw [IntKind.wrap_i64]; omega
    have HFR := Lib.hid (fun (W : World) (h1 : W.cell? ⟨g, 1, none⟩ = some (.int .i64 (s.ph : Nat))) (h4 : W.cell? ⟨g, 4, none⟩ = some (.int .i64 (s.pos : Nat))) => fresh_low g s W a hph h1 h4)
    have HE : Hid (∀ n, GStep g q U words (s.laid L' a) w ((w2.setCell ⟨c, a, none⟩ (.int .u8 (freshOf s a : Nat))).drewN n)) := Lib.hid (fun n => by
      obtain ⟨j1, j2⟩ := HJ.out
      obtain ⟨i1, i2⟩ := j1.paint a (freshOf s a) (fun _ => False) hr.2 (fun b _ hn => hn) (fun _ _ => by rw [HCO.out, if_pos rfl])
      refine GStep.after j2 ⟨GAt.mono (GAt.draws (s := s.laid L' a) ⟨_, c, _, Q, i1⟩ n) fun b hU => .inl hU, i2.trans (Turned.of_below (below_draws (Below.refl _ _) n))⟩)
    clear hs hj hph
    generalize freshOf s a = fr at *
    generalize cs.getD a 0 = y at *
    go_upto_region 4 with fail
    go_region_held3 (fun W => W.cell? ⟨g, 2, none⟩ = some (.slice (some ⟨c, 0, none⟩) words words)) (go_keep) ((go_at_call 65; refine (HFR.out _ ?_ ?_).mono ?_; exact k1; exact k4; rintro e W1 ⟨rfl, rfl⟩))
    clear E1
    go_wp2_with fail
    go_ret2
    exact ⟨by rw [HV.out]; rfl, by rw [HV.out]; exact HE.out 1⟩
/-- The list of words that lies at A. -/
def WordsAt (w : World) (V : Nat → Prop) (A : Option Addr) (n : Nat) (xs : List Nat) : Prop :=
  xs.length = n ∧ (∀ x ∈ xs, x < 18446744073709551616) ∧ ∀ i, i < n → ∃ b off, A = some ⟨b, off, none⟩ ∧ b < w.heap.size ∧ V b ∧ w.cell? ⟨b, off + i, none⟩ = some (.int .u64 (xs.getD i 0 : Nat))
theorem WordsAt.keep {w w' : World} {V : Nat → Prop} {A : Option Addr} {n : Nat} {xs : List Nat} (h : WordsAt w V A n xs) (hz : w.heap.size ≤ w'.heap.size) (hk : ∀ b, b < w.heap.size → V b → w'.heap[b]? = w.heap[b]?) : WordsAt w' V A n xs :=
  ⟨h.1, h.2.1, fun i hi => by
    obtain ⟨b, off, h1, h2, h3, h4⟩ := h.2.2 i hi
    exact ⟨b, off, h1, by omega, h3, (World.cell?_of_block (w := w) (hk b h2 h3)).trans h4⟩⟩
def GErr (g q : Nat) (U : Nat → Prop) (words : Nat) (r : Int × GS) (w : World) (e : Ending) (w' : World) : Prop := e = .returned (.int .i64 r.1) ∧ GStep g q U words r.2 w w'
theorem begin_busy (g q words : Nat) (U : Nat → Prop) (s : GS) (w : World) (h : GAt w g q U words s) (hp : s.ph ≠ 0) (A : Option Addr) (n c : Nat) (xs : List Nat) :
    Calls Tryz.prog 34 #[.pointer (some ⟨g, 0, none⟩), .slice A n c] w (GErr g q U words (s.begin xs) w) := by
  have k1 := h.cell1
  have HE : Hid (GErr g q U words (s.begin xs) w (.returned (.int .i64 9)) w) := Lib.hid (by
    unfold GErr GS.begin
    rw [if_neg hp]
    exact ⟨rfl, .stay h⟩)
  have B1 : ((s.ph : Int) != 0) = true := by rw [bne_iff_ne]; omega
  clear h hp
  generalize s.ph = p at *
  go_enter Tryz.func34, Tryz.ntmps34
  go_wp2_with fail
  go_ret
  exact HE.out
set_option maxHeartbeats 1000000 in
theorem begin_idle (g q words : Nat) (U V : Nat → Prop) (s : GS) (w : World) (h : GAt w g q U words s) (hp : s.ph = 0) (A : Option Addr) (n c : Nat) (xs : List Nat) (hx : WordsAt w V A n xs) (hV : ∀ b, V b → ¬ U b) (hn : n ≤ 9223372036854775807) :
    Calls Tryz.prog 34 #[.pointer (some ⟨g, 0, none⟩), .slice A n c] w (GErr g q U words (s.begin xs) w) := by
  have k1 := h.cell1
  rw [hp] at k1
  have hb := h.inv.begin []
  unfold GS.begin at hb
  rw [if_pos hp] at hb
  have HV : Hid (s.begin xs = (0, (GS.mk s.L 1 s.G s.B s.pos).shades (xs.take n))) := Lib.hid (by
    unfold GS.begin
    rw [if_pos hp, List.take_of_length_le (by rw [hx.1]; omega)])
  have H0 : Hid (GStep g q U words ((GS.mk s.L 1 s.G s.B s.pos).shades (xs.take 0)) w (w.setCell ⟨g, 1, none⟩ (.int .i64 1))) := Lib.hid (by
    obtain ⟨S, cc, cs, Q, hm⟩ := h
    obtain ⟨j1, j2⟩ := hm.headed (t := ⟨s.L, 1, s.G, s.B, s.pos⟩) (hm.queue.set1 (.int .i64 1)) ((Turned.refl (· = g) w).setCell ⟨g, 1, none⟩ (.int .i64 1) rfl) rfl rfl rfl hb
    exact ⟨GAt.mono ⟨S, cc, cs, Q, j1⟩ fun b hU => .inl hU, j2⟩)
  have f1 : w.frozen? ⟨g, 1, none⟩ = false := by
    obtain ⟨S, cc, cs, Q, hm⟩ := h
    exact hm.queue.head.2.2.2.2 1
  have HX := Lib.hid hx
  have hlen := hx.1
  have HLE := Lib.hid hlen
  clear h hp hb hx hlen
  go_enter Tryz.func34, Tryz.ntmps34
  go_wp2_with fail
  generalize w.setCell ⟨g, 1, none⟩ (.int .i64 1) = w1 at *
  go_loopw [17] (fun vi wr => ∃ i : Nat, i ≤ n ∧ vi = .int .i64 i ∧ Hid (GStep g q U words ((GS.mk s.L 1 s.G s.B s.pos).shades (xs.take i)) w wr)) (fun vi _ => n - (intOf vi).toNat)
  case atStart => exact ⟨0, by omega, by go_num, H0⟩
  case round =>
    obtain ⟨i, hi, rfl, HS⟩ := hrel
    clear H0
    by_cases hil : i < n
    · have g2 : decide ((i : Int) < (n : Int)) = true := by rw [decide_eq_true_iff]; omega
      have g2' : decide (i < n) = true := by rw [decide_eq_true_iff]; omega
      have hsz := HS.out.2.size
      have hx2 := HX.out.keep (w' := wr) hsz fun b hl hv => HS.out.2.block b hl (hV b hv)
      obtain ⟨b, off, rfl, hbl, _, hc⟩ := hx2.2.2 i hil
      have hxv : xs.getD i 0 < 18446744073709551616 := by
        have hil2 : i < xs.length := by rw [HLE.out]; exact hil
        rw [List.getD_eq_getElem?_getD, List.getElem?_eq_getElem hil2]
        exact hx2.2.1 _ (List.getElem_mem hil2)
      have HSH := Lib.hid (shade_any g q words _ _ _ HS.out.1 (shades_same _ _).2.1 (xs.getD i 0) hxv)
      rw [← shades_more, ← take_snoc_get (by rw [HLE.out]; exact hil)] at HSH
      clear hx2 hxv hsz
      generalize xs.getD i 0 = x at *
      go_wp2_with fail
      refine HSH.out.mono ?_
      rintro e w2 ⟨rfl, hs2⟩
      have HS2 := Lib.hid (HS.out.then hs2)
      clear hs2
      go_wp2_with fail
      go_roundw
      case rel => exact ⟨i + 1, by omega, by go_num, HS2⟩
      case measure => simp [intOf]; omega
    · have g2 : decide ((i : Int) < (n : Int)) = false := by rw [decide_eq_false_iff_not]; omega
      have g2' : decide (i < n) = false := by rw [decide_eq_false_iff_not]; omega
      obtain rfl : i = n := by omega
      go_wp2_with fail
      go_ret
      exact ⟨ret_int (by rw [HV.out]), by rw [HV.out]; exact HS.out⟩
theorem begin_any (g q words : Nat) (U V : Nat → Prop) (s : GS) (w : World) (h : GAt w g q U words s) (A : Option Addr) (n c : Nat) (xs : List Nat) (hx : WordsAt w V A n xs) (hV : ∀ b, V b → ¬ U b) (hn : n ≤ 9223372036854775807) :
    Calls Tryz.prog 34 #[.pointer (some ⟨g, 0, none⟩), .slice A n c] w (GErr g q U words (s.begin xs) w) := by
  by_cases hp : s.ph = 0
  · exact begin_idle g q words U V s w h hp A n c xs hx hV hn
  · exact begin_busy g q words U s w h hp A n c xs
theorem hSet_ok {L : List Ob} {a i : Int} {x : Nat} (h : (hGet L a i).2 = 0) : (hSet L a i x).1 = 0 := by
  unfold hGet at h
  unfold hSet
  split at h
  · cases h
  · rename_i h1
    rw [if_neg h1]
    cases hf : findOb L a.toNat with
    | none => rw [hf] at h; cases h
    | some o =>
      rw [hf] at h
      simp only at h ⊢
      split at h
      · cases h
      · rename_i h2
        rw [if_neg h2]
theorem hGet_small {w : World} {q : Nat} {S : Nat → Prop} {words : Nat} {L : List Ob} (h : HAt w q S words L) (a i : Int) : (hGet L a i).1 < 18446744073709551616 := by
  unfold hGet
  split
  · decide
  · cases hf : findOb L a.toNat with
    | none => show (0 : Nat) < 18446744073709551616; decide
    | some o =>
      simp only
      split
      · decide
      · rename_i h2
        have hi : i.toNat < o.fs.length := by omega
        show o.fs.getD i.toNat 0 < _
        rw [List.getD_eq_getElem?_getD, List.getElem?_eq_getElem hi]
        exact h.vals o (find_mem hf).1 _ (List.getElem_mem hi)
/-- Setting a field, behind the barrier. -/
theorem set_low (g q words : Nat) (U : Nat → Prop) (s t : GS) (w : World) (h : GAt w g q U words t) (hL : t.L = s.L) (a i : Int) (x : Nat) (hx : x < 18446744073709551616) (he : (hGet s.L a i).2 = 0) :
    Calls Tryz.prog 71 #[.pointer (some ⟨q, 0, none⟩), .int .i64 a, .int .i64 i, .int .u64 (x : Int)] w (GErr g q U words (0, t.put (hSet s.L a i x).2) w) := by
  obtain ⟨S, c, cs, Q, hm⟩ := h
  have hs := hSet_facts hm.inv.lies a i x
  refine (g_Set q S words t.L w hm.heap a i x hx).mono ?_
  rintro e w' ⟨he', hst⟩
  rw [hL] at hst he' hs
  rw [hSet_ok he] at he'
  have hi : GInv words (t.put (hSet s.L a i x).2) := hm.inv.put hs.1 (by rw [hL]; exact hs.2)
  obtain ⟨j1, j2⟩ := hm.heaped (t := t.put (hSet s.L a i x).2) (Y := fun _ => False) hst rfl rfl rfl hi (fun b hb hn => by
    have hb' : IsIn t.L b := by rw [hL]; exact (hs.2 b).1 hb
    exact hm.col b hb' fun h => h)
  exact ⟨he', ⟨_, c, cs, Q, j1⟩, j2⟩
set_option maxHeartbeats 1000000 in
theorem gwrite_any (g q words : Nat) (U : Nat → Prop) (s : GS) (w : World) (h : GAt w g q U words s) (a i : Int) (x : Nat) (hx : x < 18446744073709551616) :
    Calls Tryz.prog 39 #[.pointer (some ⟨g, 0, none⟩), .int .i64 a, .int .i64 i, .int .u64 (x : Int)] w (GErr g q U words (s.write a i x) w) := by
  have hgt := g_Get q U words s.L w h.heap a i
  have hsm := hGet_small h.heap a i
  have k0 : w.cell? ⟨g, 0, none⟩ = some (.pointer (some ⟨q, 0, none⟩)) := by
    obtain ⟨S, c, cs, Q, hm⟩ := h
    exact hm.queue.head.1
  have k1 := h.cell1
  by_cases he : (hGet s.L a i).2 = 0
  · have HV : Hid (s.write a i x = (0, (s.barrier a (hGet s.L a i).1).put (hSet s.L a i x).2)) := Lib.hid (by unfold GS.write; rw [if_pos he])
    have HSET := Lib.hid (fun (t : GS) (w1 : World) (U1 : Nat → Prop) (h1 : GAt w1 g q U1 words t) (hL : t.L = s.L) => set_low g q words U1 s t w1 h1 hL a i x hx he)
    by_cases hb : s.ph = 1 ∧ (hKind s.L a).1 ≠ 1
    · have HSH := Lib.hid (shade_any g q words U s w h hb.1 _ hsm)
      have HLD := Lib.hid (leads_low g q words U s.L w a h.heap k0)
      rw [decide_eq_true hb.2] at HLD
      have HB : Hid (s.barrier a (hGet s.L a i).1 = s.shade (hGet s.L a i).1) := Lib.hid (by unfold GS.barrier; rw [if_pos hb])
      rw [HB.out] at HV
      have HSL := Lib.hid (shade_same s (hGet s.L a i).1).1
      rw [hb.1] at k1
      have HGT := Lib.hid hgt
      rw [he] at HGT
      clear h hb he hgt hsm
      generalize (hGet s.L a i).1 = y at *
      go_enter Tryz.func39, Tryz.ntmps39
      go_wp2_with fail
      refine HGT.out.mono ?_
      rintro e w' ⟨rfl, rfl⟩
      go_wp2_with fail
      refine HLD.out.mono ?_
      rintro e w' ⟨rfl, rfl⟩
      go_wp2_with fail
      refine HSH.out.mono ?_
      rintro e w2 ⟨rfl, hs2⟩
      have HS2 := Lib.hid hs2
      have j0 : w2.cell? ⟨g, 0, none⟩ = some (.pointer (some ⟨q, 0, none⟩)) := by
        obtain ⟨S, c, cs, Q, hm⟩ := hs2.1
        exact hm.queue.head.1
      have HST := Lib.hid (HSET.out _ w2 _ hs2.1 HSL.out)
      clear hs2
      go_wp2_with fail
      refine HST.out.mono ?_
      rintro e w3 ⟨rfl, hs3⟩
      have HS3 := Lib.hid (HS2.out.then hs3)
      clear hs3
      go_wp2_with fail
      go_ret
      exact ⟨ret_int (by rw [HV.out]), by rw [HV.out]; exact HS3.out⟩
    · have HB : Hid (s.barrier a (hGet s.L a i).1 = s) := Lib.hid (by unfold GS.barrier; rw [if_neg hb])
      rw [HB.out] at HV
      have HST := Lib.hid (HSET.out s w U h rfl)
      have HGT := Lib.hid hgt
      rw [he] at HGT
      have HLD : Hid (s.ph = 1 → Calls Tryz.prog 70 #[.pointer (some ⟨g, 0, none⟩), .int .i64 a] w (BoolSame false w)) := Lib.hid (fun h1 => by
        have := leads_low g q words U s.L w a h.heap k0
        rw [decide_eq_false (fun hx => hb ⟨h1, hx⟩)] at this
        exact this)
      clear h hb he hgt hsm
      generalize (hGet s.L a i).1 = y at *
      by_cases h1 : s.ph = 1
      · have HLD2 := Lib.hid (HLD.out h1)
        rw [h1] at k1
        clear h1 HLD
        go_enter Tryz.func39, Tryz.ntmps39
        go_wp2_with fail
        refine HGT.out.mono ?_
        rintro e w' ⟨rfl, rfl⟩
        go_wp2_with fail
        refine HLD2.out.mono ?_
        rintro e w' ⟨rfl, rfl⟩
        go_wp2_with fail
        refine HST.out.mono ?_
        rintro e w3 ⟨rfl, hs3⟩
        have HS3 := Lib.hid hs3
        clear hs3
        go_wp2_with fail
        go_ret
        exact ⟨ret_int (by rw [HV.out]), by rw [HV.out]; exact HS3.out⟩
      · have B1 : ((s.ph : Int) == 1) = false := by rw [beq_eq_false_iff_ne]; omega
        clear h1 HLD
        generalize s.ph = p at *
        go_enter Tryz.func39, Tryz.ntmps39
        go_wp2_with fail
        refine HGT.out.mono ?_
        rintro e w' ⟨rfl, rfl⟩
        go_wp2_with fail
        refine HST.out.mono ?_
        rintro e w3 ⟨rfl, hs3⟩
        have HS3 := Lib.hid hs3
        clear hs3
        go_wp2_with fail
        go_ret
        exact ⟨ret_int (by rw [HV.out]), by rw [HV.out]; exact HS3.out⟩
  · have HV : Hid (s.write a i x = ((hGet s.L a i).2, s)) := Lib.hid (by unfold GS.write; rw [if_neg he])
    have B1 : ((hGet s.L a i).2 != 0) = true := by rw [bne_iff_ne]; exact he
    have HGT := Lib.hid hgt
    have HG := Lib.hid (GStep.stay h)
    clear h he hgt hsm
    generalize hGet s.L a i = r at *
    obtain ⟨y, er⟩ := r
    simp only at *
    go_enter Tryz.func39, Tryz.ntmps39
    go_wp2_with fail
    refine HGT.out.mono ?_
    rintro e w' ⟨rfl, rfl⟩
    go_wp2_with fail
    go_ret
    exact ⟨ret_int (by rw [HV.out]), by rw [HV.out]; exact HG.out⟩
/-- A field of the queue's head. -/
theorem QAt.cells {w : World} {g : Nat} {R : Nat → Prop} {A0 A1 A2 A4 : Value} {Q : List Nat} (h : QAt w g R A0 A1 A2 A4 Q) :
    ∃ A c, w.cell? ⟨g, 3, none⟩ = some (.slice A Q.length c) ∧ ∀ i, i < Q.length → ∃ b, A = some ⟨b, 0, none⟩ ∧ b < w.heap.size ∧ w.cell? ⟨b, i, none⟩ = some (.int .i64 (Q.getD i 0 : Nat)) := by
  obtain ⟨v, h1, h2, _⟩ := h
  have h3 : w.cell? ⟨g, 3, none⟩ = some v := by rw [Lib.cell_of_heap h1]; rfl
  rcases h2.2 with ⟨rfl, he⟩ | ⟨f, c, _, he, _⟩
  · exact ⟨none, 0, by rw [h3, he], fun i hi => by omega⟩
  · refine ⟨some ⟨f, 0, none⟩, c, by rw [h3, he], fun i hi => ⟨f, rfl, (World.ownsRow.lt h2 f (by rw [he]; rfl)).2, ?_⟩⟩
    subst he
    have hN : Nums w .i64 3 f c Q := h2
    exact hN.cell i hi
def GNew (q words : Nat) (S : Nat → Prop) (L : List Ob) (w : World) (e : Ending) (w' : World) : Prop := ∃ g, e = .returned (.pointer (some ⟨g, 0, none⟩)) ∧ GAt w' g q (fun b => S b ∨ w.heap.size ≤ b) words ⟨L, 0, [], [], 0⟩ ∧ Below w.heap.size w w'
def zerosC (n : Nat) : Array Value := madeCells #[Value.int .u8 0] n
theorem zerosC_list (n : Nat) : (zerosC n).toList = nums .u8 (List.replicate n 0) := by
  unfold zerosC
  rw [toList_madeCells_one]
  simp [nums]
theorem nums_made {w : World} {t : TypeId} {g n : Nat} (h : w.heap[g]? = some (.cells (zerosC n) t (0, 0))) (hn : n ≤ 65536) : Nums w .u8 t g n (List.replicate n 0) := by
  have hz : (zerosC n).size = n := by rw [← Array.length_toList, zerosC_list, nums_len, List.length_replicate]
  unfold Nums
  rw [List.length_replicate]
  refine ⟨by rw [nums_len, List.length_replicate]; omega, .inr ⟨g, n, _, rfl, Nat.zero_le _, h, Nat.le_refl _, by unfold maxLen; omega, by rw [hz]; omega, ?_⟩⟩
  rw [← zerosC_list]
  exact List.take_of_length_le (by rw [Array.length_toList, hz]; omega)
set_option maxHeartbeats 1000000 in
theorem gnew_any (q words : Nat) (S : Nat → Prop) (L : List Ob) (w : World) (h : HAt w q S words L) (hw : words ≤ 65536) :
    Calls Tryz.prog 29 #[.pointer (some ⟨q, 0, none⟩)] w (GNew q words S L w) := by
  obtain ⟨i0, hi0, hz0, hz1, hz2⟩ := info_parts infoColor
  have HW := Lib.hid (g_Words q S words L w h)
  have hmk := run_make_rowN (P := Tryz.prog) 102 106 i0 _ Tryz.underlying102 hi0 hz0 .i64 .i64 words words (Nat.le_refl _) (by rw [hz2]; omega) (by omega) w
  rw [hz1, Nat.mul_one] at hmk
  have hmk2 : (Instr.makeSlice 102 (.int .i64 (words : Int)) (.int .i64 (words : Int))).run Tryz.prog w = .ok (.slice (some ⟨w.heap.size, 0, none⟩) words words) (w.alloc (.cells (zerosC words) 106)) := hmk
  have H := Lib.hid h
  have HZ := Lib.hid (fun (W : World) (g : Nat) (hx : W.heap[g]? = some (.cells (zerosC words) 106 (0, 0))) => nums_made hx hw)
  clear hmk h
  generalize zerosC words = Z at *
  go_enter Tryz.func29, Tryz.ntmps29
  go_wp2_with fail
  refine HW.out.mono ?_
  rintro e w' ⟨rfl, rfl⟩
  go_wp2_with fail
  go_ret
  have hb : Below w.heap.size w (w.alloc (.cells Z 106)) := (Below.refl _ w).alloc (Nat.le_refl _) _
  have hb2 := hb.alloc (by simp) (.cells #[.pointer (some ⟨q, 0, none⟩), .int .i64 0, .slice (some ⟨w.heap.size, 0, none⟩) words words, .slice none 0 0, .int .i64 0] 105)
  refine ⟨w.heap.size + 1, by simp, ⟨(fun b => S b ∧ b < w.heap.size), w.heap.size, List.replicate words 0, [], ⟨H.out.bound.below hb2, ?_, ?_, by simp, hw, ?_, heap_nil, List.Perm.refl _, GInv.new H.out.lies, fun b hS => .inl hS.1, .inr (by omega), .inr (Nat.le_refl _), fun hS => by have := hS.2; omega, fun hS => by have := hS.2; omega, fun b hS => Nat.lt_of_lt_of_le hS.2 hb2.size⟩⟩, hb2⟩
  · refine ⟨.slice none 0 0, ?_, World.ownsRow_nil _ _ _ _, fun b hb => by cases hb⟩
    have := heap_alloc_new (w.alloc (.cells Z 106)) (.cells #[.pointer (some ⟨q, 0, none⟩), .int .i64 0, .slice (some ⟨w.heap.size, 0, none⟩) words words, .slice none 0 0, .int .i64 0] 105)
    simpa using this
  · refine HZ.out _ _ ?_
    rw [Below.heap_alloc _ _ _ (by simp)]
    exact heap_alloc_new w _
  · intro a _ _
    rw [getD_replicate]
    rfl
end Go.Proofs.YtdkbgdjkdalalaaGreatDoor
