/-
  The walk of the free runs' give: the freed cells, joined with the runs that they touch.
-/
import Derived.Test.YtdkbgdjkdalalaaGreatDoorHTake
import Derived.Deep.RegionWith
import Derived.Deep.Cut
import Derived.Deep.QuietTactic
import Derived.BigQuiet
import Derived.Deep.RegionHeld3
namespace Go.Proofs.YtdkbgdjkdalalaaGreatDoor
open Go.RowKit
/-- The place of the first run at or above cell a. -/
def cutPos (l : List (Nat × Nat)) (a : Nat) : Nat := l.findIdx fun r => decide (a ≤ r.1)
theorem CutAt.pos {l : List (Nat × Nat)} {a p : Nat} (h : CutAt l a p) : cutPos l a = p := by
  obtain ⟨h1, h2, h3⟩ := h
  unfold cutPos
  by_cases hp : p < l.length
  · rw [List.findIdx_eq hp]
    have h4 := h3 p (by omega) hp
    unfold bgn at h4
    refine ⟨by simpa [List.getD_eq_getElem?_getD, List.getElem?_eq_getElem hp] using h4, fun j hj => ?_⟩
    have h5 := h2 j hj
    unfold bgn at h5
    simpa [List.getD_eq_getElem?_getD, List.getElem?_eq_getElem (show j < l.length by omega)] using h5
  · obtain rfl : p = l.length := by omega
    rw [List.findIdx_eq_length]
    intro r hr
    obtain ⟨j, hj, rfl⟩ := List.getElem_of_mem hr
    have h5 := h2 j hj
    unfold bgn at h5
    simpa [List.getD_eq_getElem?_getD, List.getElem?_eq_getElem hj] using h5
def joinL (l : List (Nat × Nat)) (p a : Nat) : Prop := 0 < p ∧ (l.getD (p - 1) (0, 0)).1 + (l.getD (p - 1) (0, 0)).2 = a
instance (l : List (Nat × Nat)) (p a : Nat) : Decidable (joinL l p a) := by unfold joinL; infer_instance
def leftPos (l : List (Nat × Nat)) (p a : Nat) : Nat := if joinL l p a then p - 1 else p
def leftRun (l : List (Nat × Nat)) (p a c : Nat) : Nat × Nat := if joinL l p a then ((l.getD (p - 1) (0, 0)).1, (l.getD (p - 1) (0, 0)).2 + c) else (a, c)
def joinR (l : List (Nat × Nat)) (p : Nat) (r : Nat × Nat) : Prop := p < l.length ∧ (l.getD p (0, 0)).1 = r.1 + r.2
instance (l : List (Nat × Nat)) (p : Nat) (r : Nat × Nat) : Decidable (joinR l p r) := by unfold joinR; infer_instance
def rightPos (l : List (Nat × Nat)) (p : Nat) (r : Nat × Nat) : Nat := if joinR l p r then p + 1 else p
def rightRun (l : List (Nat × Nat)) (p : Nat) (r : Nat × Nat) : Nat × Nat := if joinR l p r then (r.1, r.2 + (l.getD p (0, 0)).2) else r
def giveRuns (l : List (Nat × Nat)) (a c : Nat) : List (Nat × Nat) :=
  swapAt l (leftPos l (cutPos l a) a) (rightPos l (cutPos l a) (leftRun l (cutPos l a) a c)) (rightRun l (cutPos l a) (leftRun l (cutPos l a) a c))
theorem leftRun_small (l : List (Nat × Nat)) (p a c : Nat) (_h : Within l) (hac : a + c ≤ 65536) : (leftRun l p a c).1 + (leftRun l p a c).2 ≤ 65536 := by
  unfold leftRun
  split
  · rename_i hj
    have := hj.2
    simp only
    omega
  · exact hac
/-- In the midst of give: the freed run lies in a block of its own. -/
def GiveAt (w : World) (q : Nat) (r : Nat × Nat) (wx : World) : Prop := Below w.heap.size w wx ∧ OneRun wx q r ∧ w.heap.size ≤ q
theorem OneRun.c1 {w : World} {q : Nat} {r : Nat × Nat} (h : OneRun w q r) : w.cell? ⟨q, 0, none⟩ = some (.int .i64 (r.1 : Int)) := by rw [Lib.cell_of_heap h]; rfl
theorem OneRun.c2 {w : World} {q : Nat} {r : Nat × Nat} (h : OneRun w q r) : w.cell? ⟨q, 1, none⟩ = some (.int .i64 (r.2 : Int)) := by rw [Lib.cell_of_heap h]; rfl
theorem OneRun.fz {w : World} {q : Nat} {r : Nat × Nat} (h : OneRun w q r) (i : Nat) : w.frozen? ⟨q, i, none⟩ = false := Lib.frozen_of_heap h i
theorem GiveAt.drewN {w wx : World} {q : Nat} {r : Nat × Nat} (h : GiveAt w q r wx) (n : Nat) : GiveAt w q r (wx.drewN n) :=
  ⟨⟨h.1.os, h.1.tape, h.1.output, h.1.size, h.1.block⟩, h.2.1, h.2.2⟩
theorem GiveAt.drew {w wx : World} {q : Nat} {r : Nat × Nat} (h : GiveAt w q r wx) : GiveAt w q r wx.drew :=
  ⟨⟨h.1.os, h.1.tape, h.1.output, h.1.size, h.1.block⟩, h.2.1, h.2.2⟩
theorem GiveAt.put {w wx : World} {q : Nat} {r : Nat × Nat} (h : GiveAt w q r wx) (x y : Nat) :
    GiveAt w q (x, y) ((wx.setCell ⟨q, 0, none⟩ (.int .i64 (x : Int))).setCell ⟨q, 1, none⟩ (.int .i64 (y : Int))) := by
  refine ⟨(h.1.setCell (p := ⟨q, 0, none⟩) h.2.2 _).setCell (p := ⟨q, 1, none⟩) h.2.2 _, ?_, h.2.2⟩
  unfold OneRun
  rw [heap_setCell_same _ q 1 _ _ _ (heap_setCell_same _ q 0 _ _ _ h.2.1)]
  rfl
theorem GiveAt.put2 {w wx : World} {q : Nat} {r : Nat × Nat} (h : GiveAt w q r wx) (y : Nat) :
    GiveAt w q (r.1, y) (wx.setCell ⟨q, 1, none⟩ (.int .i64 (y : Int))) := by
  refine ⟨h.1.setCell (p := ⟨q, 1, none⟩) h.2.2 _, ?_, h.2.2⟩
  unfold OneRun
  rw [heap_setCell_same _ q 1 _ _ _ h.2.1]
  rfl
theorem GiveAt.below {w wx wy : World} {q : Nat} {r : Nat × Nat} (h : GiveAt w q r wx) (hb : Below wx.heap.size wx wy) : GiveAt w q r wy :=
  ⟨h.1.trans (hb.mono h.1.size), (hb.block q (lt_of_heap h.2.1)).trans h.2.1, h.2.2⟩
theorem bcell {W w1 : World} (hb : Below W.heap.size W w1) : (∀ b o, b < W.heap.size → w1.cell? ⟨b, o, none⟩ = W.cell? ⟨b, o, none⟩) ∧ (∀ b o, b < W.heap.size → w1.frozen? ⟨b, o, none⟩ = W.frozen? ⟨b, o, none⟩) :=
  ⟨fun b o h => hb.cell (p := ⟨b, o, none⟩) h, fun b o h => hb.frozen (p := ⟨b, o, none⟩) h⟩
def SearchAt (l : List (Nat × Nat)) (a p : Nat) (s4 : Value) : Prop := CutAt l a p ∧ s4 = .int .i64 (p : Int)
theorem giveAt_start (w w1 : World) (r : Nat × Nat) (hb : Below (w.alloc (.cells #[.int .i64 (r.1 : Int), .int .i64 (r.2 : Int)] 97)).drew.heap.size (w.alloc (.cells #[.int .i64 (r.1 : Int), .int .i64 (r.2 : Int)] 97)).drew w1) : GiveAt w w.heap.size r w1 := by
  have h1 : Below w.heap.size w (w.alloc (.cells #[.int .i64 (r.1 : Int), .int .i64 (r.2 : Int)] 97)).drew := ((Below.refl _ w).alloc (Nat.le_refl _) _).drew
  refine ⟨h1.trans (hb.mono h1.size), ?_, Nat.le_refl _⟩
  exact (hb.block w.heap.size (show w.heap.size < (w.alloc _).heap.size by simp)).trans (heap_alloc_new w _)
set_option maxHeartbeats 4000000 in
set_option maxRecDepth 100000 in
theorem give_any (hb0 g k a c : Nat) (cv mv : Value) (l : List (Nat × Nat)) (w : World) (hh : Head w hb0 cv mv (.slice (some ⟨g, 0, none⟩) l.length k)) (hr : Runs w g k l) (hs : Rising l) (hn : l.length ≤ 64000) (hw : Within l) (hac : a + c ≤ 65536) :
    Calls Tryz.prog 106 #[.pointer (some ⟨hb0, 2, none⟩), .agg #[.int .i64 (a : Int), .int .i64 (c : Int)]] w fun e w' => e = .returned (.tuple #[]) ∧ FreeAfter hb0 g cv mv (giveRuns l a c) w w' := by
  have c2 := hh.cell2
  have hlt := hh.lt
  have hgl := hr.lt
  have HNE := Lib.hid (hh.ne hr)
  have HH := Lib.hid hh
  have HR := Lib.hid hr
  have HS := Lib.hid hs
  have HW := Lib.hid hw
  have HR1 : Hid (∀ W : World, W.heap = (w.alloc (.cells #[.int .i64 (a : Int), .int .i64 (c : Int)] 97)).heap → Runs W g k l) := Lib.hid fun W hW => hr.keep (by rw [hW]; exact Below.heap_alloc w _ g hgl)
  clear hh hr hs hw
  go_enter Tryz.func106, Tryz.ntmps106
  go_upto_region 1 with fail
  go_cut [4, 5] from 7 (fun s4 _ wx => ∃ p : Nat, Hid (SearchAt l a p s4) ∧ Hid (GiveAt w w.heap.size (a, c) wx))
  case first =>
    go_region_with (first | (go_at_call 108; refine (search_any g k a l _ ?_ HS.out (by omega)).mono ?_; exact HR1.out _ rfl; rintro e w1 ⟨p, b, hp, rfl, hb1⟩))
    all_goals (have HP := Lib.hid hp; have HB := Lib.hid hb1; clear hp hb1; go_wp2_with fail; go_meet; exact ⟨p, Lib.hid ⟨HP.out, rfl⟩, Lib.hid (giveAt_start w w1 (a, c) HB.out)⟩)
  case rest =>
    obtain ⟨p, HP, HG⟩ := hcut
    obtain ⟨hp, rfl⟩ := HP.out
    obtain ⟨hb, ho, _⟩ := HG.out
    have hp2 := hp.1
    have HCP := Lib.hid hp.pos
    clear hp ho HP hb
    go_upto_region 3 with fail
    go_cut [31] from 7 (fun s31 wx => Hid (s31 = .bool (decide (joinL l p a))) ∧ Hid (GiveAt w w.heap.size (a, c) wx))
    case first =>
      obtain ⟨hb, ho, _⟩ := HG.out
      have q1 := ho.c1
      have q2 := ho.c2
      have hsz := hb.size
      have hqz : w.heap.size < wc.heap.size := lt_of_heap ho
      have d2 := (hb.cell (p := ⟨_, 2, none⟩) hlt).trans c2
      rcases p with _ | p
      · have HV := Lib.hid (show decide (joinL l 0 a) = false by simp [joinL])
        have g0 : decide ((0 : Int) < ((0 : Nat) : Int)) = false := by decide
        clear hb ho
        go_quiet (fail)
        all_goals (go_wp2_with fail; go_meet; exact ⟨Lib.hid (by rw [HV.out]), Lib.hid (HG.out.drewN _)⟩)
      · have e1 := (hb.cell (p := ⟨g, p * 2, none⟩) hgl).trans (HR.out.at1 p (by omega))
        have e2 := (hb.cell (p := ⟨g, p * 2 + 1, none⟩) hgl).trans (HR.out.at2 p (by omega))
        have hwp := HW.out p
        by_cases hj : (l.getD p (0, 0)).1 + (l.getD p (0, 0)).2 = a
        · have HV := Lib.hid (show decide (joinL l (p + 1) a) = true by simp [joinL]; simpa using hj)
          generalize l.getD p (0, 0) = rl at *
          have B0 : ((rl.1 : Int) + (rl.2 : Int) == (a : Int)) = true := by simp; omega
          have hgz : g < wc.heap.size := by omega
          have hhz : hb0 < wc.heap.size := by omega
          have g1 : decide ((0 : Int) < (p : Int) + 1) = true := by rw [decide_eq_true_iff]; omega
          have g2 : IntKind.i64.wrap ((p : Int) + 1 - 1) = (p : Int) := by rw [IntKind.wrap_i64]; omega
          have g3 : IntKind.i64.wrap (p : Int) = (p : Int) := by rw [IntKind.wrap_i64]; omega
          have g4 : (0 : Int) ≤ (p : Int) := by omega
          have g5 : (p : Int) < (l.length : Int) := by omega
          clear hb ho hj
          go_region_held3 (fun w' => w'.cell? ⟨hb0, 2, none⟩ = some (.slice (some ⟨g, 0, none⟩) l.length k) ∧ w'.cell? ⟨w.heap.size, 0, none⟩ = some (.int .i64 (a : Int)) ∧ w'.cell? ⟨g, p * 2, none⟩ = some (.int .i64 (rl.1 : Int)) ∧ w'.cell? ⟨g, p * 2 + 1, none⟩ = some (.int .i64 (rl.2 : Int))) (go_keep) ((go_at_call 111; refine (end_any rl.1 rl.2 _ (by omega) (by omega) (by omega) (by omega)).mono ?_; rintro e w1 ⟨rfl, hb1⟩; have k1 := (hb1.cell (p := ⟨hb0, 2, none⟩) hhz).trans d2; have k2 := (hb1.cell (p := ⟨w.heap.size, 0, none⟩) hqz).trans q1; have k3 := (hb1.cell (p := ⟨g, p * 2, none⟩) hgz).trans e1; have k4 := (hb1.cell (p := ⟨g, p * 2 + 1, none⟩) hgz).trans e2))
          all_goals (have HB := Lib.hid hb1; clear hb1; go_wp2_with fail; go_meet; exact ⟨Lib.hid (by rw [HV.out]), Lib.hid (HG.out.drew.below HB.out)⟩)
        · have HV := Lib.hid (show decide (joinL l (p + 1) a) = false by simp [joinL]; simpa using hj)
          generalize l.getD p (0, 0) = rl at *
          have B0 : ((rl.1 : Int) + (rl.2 : Int) == (a : Int)) = false := by simp; omega
          have hgz : g < wc.heap.size := by omega
          have hhz : hb0 < wc.heap.size := by omega
          have g1 : decide ((0 : Int) < (p : Int) + 1) = true := by rw [decide_eq_true_iff]; omega
          have g2 : IntKind.i64.wrap ((p : Int) + 1 - 1) = (p : Int) := by rw [IntKind.wrap_i64]; omega
          have g3 : IntKind.i64.wrap (p : Int) = (p : Int) := by rw [IntKind.wrap_i64]; omega
          have g4 : (0 : Int) ≤ (p : Int) := by omega
          have g5 : (p : Int) < (l.length : Int) := by omega
          clear hb ho hj
          go_region_held3 (fun w' => w'.cell? ⟨hb0, 2, none⟩ = some (.slice (some ⟨g, 0, none⟩) l.length k) ∧ w'.cell? ⟨w.heap.size, 0, none⟩ = some (.int .i64 (a : Int)) ∧ w'.cell? ⟨g, p * 2, none⟩ = some (.int .i64 (rl.1 : Int)) ∧ w'.cell? ⟨g, p * 2 + 1, none⟩ = some (.int .i64 (rl.2 : Int))) (go_keep) ((go_at_call 111; refine (end_any rl.1 rl.2 _ (by omega) (by omega) (by omega) (by omega)).mono ?_; rintro e w1 ⟨rfl, hb1⟩; have k1 := (hb1.cell (p := ⟨hb0, 2, none⟩) hhz).trans d2; have k2 := (hb1.cell (p := ⟨w.heap.size, 0, none⟩) hqz).trans q1; have k3 := (hb1.cell (p := ⟨g, p * 2, none⟩) hgz).trans e1; have k4 := (hb1.cell (p := ⟨g, p * 2 + 1, none⟩) hgz).trans e2))
          all_goals (have HB := Lib.hid hb1; clear hb1; go_wp2_with fail; go_meet; exact ⟨Lib.hid (by rw [HV.out]), Lib.hid (HG.out.drew.below HB.out)⟩)
    case rest =>
      obtain ⟨H31, HG1⟩ := hcut
      clear HG
      go_upto_if 31 with fail
      go_cut [4] from 7 (fun s4 wx => Hid (s4 = .int .i64 (leftPos l p a : Nat)) ∧ Hid (GiveAt w w.heap.size (leftRun l p a c) wx))
      case first =>
        obtain ⟨hb, ho, _⟩ := HG1.out
        have q1 := ho.c1
        have q2 := ho.c2
        have z1 := ho.fz 0
        have z2 := ho.fz 1
        have hsz := hb.size
        have d2 := (hb.cell (p := ⟨_, 2, none⟩) hlt).trans c2
        have hqz : w.heap.size < wc.heap.size := lt_of_heap ho
        have hwr := HW.out
        by_cases hj : joinL l p a
        · obtain ⟨p, rfl⟩ : ∃ p', p = p' + 1 := ⟨p - 1, by have := hj.1; omega⟩
          have e1 := (hb.cell (p := ⟨g, p * 2, none⟩) hgl).trans (HR.out.at1 p (by omega))
          have e2 := (hb.cell (p := ⟨g, p * 2 + 1, none⟩) hgl).trans (HR.out.at2 p (by omega))
          have hwp := HW.out p
          have HL := Lib.hid (show leftPos l (p + 1) a = p by unfold leftPos; rw [if_pos hj]; rfl)
          have HN := Lib.hid (show leftRun l (p + 1) a c = ((l.getD p (0, 0)).1, (l.getD p (0, 0)).2 + c) by unfold leftRun; rw [if_pos hj]; rfl)
          have h31 := H31.out
          rw [decide_eq_true hj] at h31
          subst h31
          have hje := hj.2
          simp only [Nat.add_sub_cancel] at hje
          generalize l.getD p (0, 0) = rl at *
          have g3 : IntKind.i64.wrap (p : Int) = (p : Int) := by rw [IntKind.wrap_i64]; omega
          have g4 : (0 : Int) ≤ (p : Int) := by omega
          have g5 : (p : Int) < (l.length : Int) := by omega
          have g6 : IntKind.i64.wrap ((rl.2 : Int) + (c : Int)) = (rl.2 : Int) + (c : Int) := by rw [IntKind.wrap_i64]; omega
          clear hb ho hj hwr hje H31
          go_wp2_with fail
          go_region
          clear g3 g6
          go_wp2_with fail
          go_meet
          refine ⟨Lib.hid (by rw [HL.out]), Lib.hid ?_⟩
          rw [HN.out]
          have h := (HG1.out.put rl.1 (rl.2 + c)).drew
          rw [show ((rl.2 + c : Nat) : Int) = (rl.2 : Int) + (c : Int) by omega] at h
          exact h
        · have HL := Lib.hid (show leftPos l p a = p by unfold leftPos; rw [if_neg hj])
          have HN := Lib.hid (show leftRun l p a c = (a, c) by unfold leftRun; rw [if_neg hj])
          have h31 := H31.out
          rw [decide_eq_false hj] at h31
          subst h31
          clear hb ho hj hwr H31
          go_wp2_with fail
          go_meet
          exact ⟨Lib.hid (by rw [HL.out]), Lib.hid (by rw [HN.out]; exact HG1.out)⟩
      case rest =>
        obtain ⟨H4, HG2⟩ := hcut
        obtain rfl := H4.out
        clear HG1 H31 H4
        have HLR := Lib.hid (show ∃ r, leftRun l p a c = r from ⟨_, rfl⟩)
        obtain ⟨r1, hr1⟩ := HLR.out
        have HR1E := Lib.hid hr1
        rw [hr1] at HG2
        clear hr1 HLR
        have hrb := leftRun_small l p a c HW.out hac
        rw [HR1E.out] at hrb
        go_upto_region 6 with fail
        go_cut [69] from 7 (fun s69 wx => Hid (s69 = .bool (decide (joinR l p r1))) ∧ Hid (GiveAt w w.heap.size r1 wx))
        case first =>
          obtain ⟨hb, ho, _⟩ := HG2.out
          have q1 := ho.c1
          have q2 := ho.c2
          have hsz := hb.size
          have d2 := (hb.cell (p := ⟨_, 2, none⟩) hlt).trans c2
          have hqz : w.heap.size < wc.heap.size := lt_of_heap ho
          by_cases hpl : p < l.length
          · have e1 := (hb.cell (p := ⟨g, p * 2, none⟩) hgl).trans (HR.out.at1 p hpl)
            by_cases hj : (l.getD p (0, 0)).1 = r1.1 + r1.2
            · have HV := Lib.hid (show decide (joinR l p r1) = true from decide_eq_true ⟨hpl, hj⟩)
              generalize (l.getD p (0, 0)).1 = x at *
              have B0 : ((x : Int) == (r1.1 : Int) + (r1.2 : Int)) = true := by simp; omega
              have hgz : g < wc.heap.size := by omega
              have hhz : hb0 < wc.heap.size := by omega
              have g1 : decide ((p : Int) < (l.length : Int)) = true := by rw [decide_eq_true_iff]; omega
              have g3 : IntKind.i64.wrap (p : Int) = (p : Int) := by rw [IntKind.wrap_i64]; omega
              have g4 : (0 : Int) ≤ (p : Int) := by omega
              have g5 : (p : Int) < (l.length : Int) := by omega
              clear hb ho hj
              go_region_held3 (fun w' => w'.cell? ⟨hb0, 2, none⟩ = some (.slice (some ⟨g, 0, none⟩) l.length k) ∧ w'.cell? ⟨w.heap.size, 0, none⟩ = some (.int .i64 (r1.1 : Int)) ∧ w'.cell? ⟨w.heap.size, 1, none⟩ = some (.int .i64 (r1.2 : Int)) ∧ w'.cell? ⟨g, p * 2, none⟩ = some (.int .i64 (x : Int))) (go_keep) ((go_at_call 111; refine (end_any r1.1 r1.2 _ (by omega) (by omega) (by omega) (by omega)).mono ?_; rintro e w1 ⟨rfl, hb1⟩; have k1 := (hb1.cell (p := ⟨hb0, 2, none⟩) hhz).trans d2; have k2 := (hb1.cell (p := ⟨w.heap.size, 0, none⟩) hqz).trans q1; have k3 := (hb1.cell (p := ⟨w.heap.size, 1, none⟩) hqz).trans q2; have k4 := (hb1.cell (p := ⟨g, p * 2, none⟩) hgz).trans e1))
              all_goals (have HB := Lib.hid hb1; clear hb1; go_wp2_with fail; go_meet; exact ⟨Lib.hid (by rw [HV.out]), Lib.hid (HG2.out.drew.below HB.out)⟩)
            · have HV := Lib.hid (show decide (joinR l p r1) = false from decide_eq_false (fun h => hj h.2))
              generalize (l.getD p (0, 0)).1 = x at *
              have B0 : ((x : Int) == (r1.1 : Int) + (r1.2 : Int)) = false := by simp; omega
              have hgz : g < wc.heap.size := by omega
              have hhz : hb0 < wc.heap.size := by omega
              have g1 : decide ((p : Int) < (l.length : Int)) = true := by rw [decide_eq_true_iff]; omega
              have g3 : IntKind.i64.wrap (p : Int) = (p : Int) := by rw [IntKind.wrap_i64]; omega
              have g4 : (0 : Int) ≤ (p : Int) := by omega
              have g5 : (p : Int) < (l.length : Int) := by omega
              clear hb ho hj
              go_region_held3 (fun w' => w'.cell? ⟨hb0, 2, none⟩ = some (.slice (some ⟨g, 0, none⟩) l.length k) ∧ w'.cell? ⟨w.heap.size, 0, none⟩ = some (.int .i64 (r1.1 : Int)) ∧ w'.cell? ⟨w.heap.size, 1, none⟩ = some (.int .i64 (r1.2 : Int)) ∧ w'.cell? ⟨g, p * 2, none⟩ = some (.int .i64 (x : Int))) (go_keep) ((go_at_call 111; refine (end_any r1.1 r1.2 _ (by omega) (by omega) (by omega) (by omega)).mono ?_; rintro e w1 ⟨rfl, hb1⟩; have k1 := (hb1.cell (p := ⟨hb0, 2, none⟩) hhz).trans d2; have k2 := (hb1.cell (p := ⟨w.heap.size, 0, none⟩) hqz).trans q1; have k3 := (hb1.cell (p := ⟨w.heap.size, 1, none⟩) hqz).trans q2; have k4 := (hb1.cell (p := ⟨g, p * 2, none⟩) hgz).trans e1))
              all_goals (have HB := Lib.hid hb1; clear hb1; go_wp2_with fail; go_meet; exact ⟨Lib.hid (by rw [HV.out]), Lib.hid (HG2.out.drew.below HB.out)⟩)
          · have HV := Lib.hid (show decide (joinR l p r1) = false from decide_eq_false (fun h => hpl h.1))
            have g0 : decide ((p : Int) < (l.length : Int)) = false := by rw [decide_eq_false_iff_not]; omega
            clear hb ho
            go_quiet (fail)
            all_goals (go_wp2_with fail; go_meet; exact ⟨Lib.hid (by rw [HV.out]), Lib.hid (HG2.out.drewN _)⟩)
        case rest =>
          obtain ⟨H69, HG3⟩ := hcut
          clear HG2
          go_upto_if 69 with fail
          go_cut [6] from 7 (fun s6 wx => Hid (s6 = .int .i64 (rightPos l p r1 : Nat)) ∧ Hid (GiveAt w w.heap.size (rightRun l p r1) wx))
          case first =>
            obtain ⟨hb, ho, _⟩ := HG3.out
            have q1 := ho.c1
            have q2 := ho.c2
            have z1 := ho.fz 0
            have z2 := ho.fz 1
            have hsz := hb.size
            have d2 := (hb.cell (p := ⟨_, 2, none⟩) hlt).trans c2
            have hqz : w.heap.size < wc.heap.size := lt_of_heap ho
            by_cases hj : joinR l p r1
            · have e2 := (hb.cell (p := ⟨g, p * 2 + 1, none⟩) hgl).trans (HR.out.at2 p hj.1)
              have hwp := HW.out p
              have HL := Lib.hid (show rightPos l p r1 = p + 1 by unfold rightPos; rw [if_pos hj])
              have HN := Lib.hid (show rightRun l p r1 = (r1.1, r1.2 + (l.getD p (0, 0)).2) by unfold rightRun; rw [if_pos hj])
              have h69 := H69.out
              rw [decide_eq_true hj] at h69
              subst h69
              have hpl := hj.1
              generalize l.getD p (0, 0) = rl at *
              have g3 : IntKind.i64.wrap (p : Int) = (p : Int) := by rw [IntKind.wrap_i64]; omega
              have g4 : (0 : Int) ≤ (p : Int) := by omega
              have g5 : (p : Int) < (l.length : Int) := by omega
              have g6 : IntKind.i64.wrap ((r1.2 : Int) + (rl.2 : Int)) = (r1.2 : Int) + (rl.2 : Int) := by rw [IntKind.wrap_i64]; omega
              clear hb ho hj H69
              go_wp2_with fail
              go_region
              clear g3 g6
              go_wp2_with fail
              go_meet
              refine ⟨Lib.hid (by rw [HL.out]; rfl), Lib.hid ?_⟩
              rw [HN.out]
              have h := (HG3.out.put2 (r1.2 + rl.2)).drew
              rw [show ((r1.2 + rl.2 : Nat) : Int) = (r1.2 : Int) + (rl.2 : Int) by omega] at h
              exact h
            · have HL := Lib.hid (show rightPos l p r1 = p by unfold rightPos; rw [if_neg hj])
              have HN := Lib.hid (show rightRun l p r1 = r1 by unfold rightRun; rw [if_neg hj])
              have h69 := H69.out
              rw [decide_eq_false hj] at h69
              subst h69
              clear hb ho hj H69
              go_wp2_with fail
              go_meet
              exact ⟨Lib.hid (by rw [HL.out]), Lib.hid (by rw [HN.out]; exact HG3.out)⟩
          case rest =>
            obtain ⟨H6, HG4⟩ := hcut
            obtain rfl := H6.out
            clear HG3 H69 H6
            have HE : Hid (giveRuns l a c = swapAt l (leftPos l p a) (rightPos l p r1) (rightRun l p r1)) := Lib.hid (by unfold giveRuns; rw [HCP.out, HR1E.out])
            have hi1 : leftPos l p a ≤ p := by unfold leftPos; split <;> omega
            have hj1 : p ≤ rightPos l p r1 := by unfold rightPos; split <;> omega
            have hj2 : rightPos l p r1 ≤ l.length := by
              unfold rightPos
              split
              · rename_i h; exact h.1
              · omega
            generalize leftPos l p a = i1 at *
            generalize rightPos l p r1 = j1 at *
            generalize rightRun l p r1 = r2 at *
            obtain ⟨hb, ho, _⟩ := HG4.out
            have q1 := ho.c1
            have q2 := ho.c2
            have hsz := hb.size
            have d2 := (hb.cell (p := ⟨_, 2, none⟩) hlt).trans c2
            have d3 := (hb.frozen (p := ⟨_, 2, none⟩) hlt).trans (HH.out.frozen 2)
            have hqz : w.heap.size < wc.heap.size := lt_of_heap ho
            have RR : Hid (∀ W : World, W.heap = (wc.alloc (.cells #[.int .i64 (r2.1 : Int), .int .i64 (r2.2 : Int)] 97)).heap → Runs W g k l) := Lib.hid fun W hW => HR.out.keep (by rw [hW]; exact (Below.heap_alloc wc _ g (by omega)).trans (hb.block g hgl))
            have OO : Hid (∀ W : World, W.heap = (wc.alloc (.cells #[.int .i64 (r2.1 : Int), .int .i64 (r2.2 : Int)] 97)).heap → OneRun W wc.heap.size r2) := Lib.hid fun W hW => by unfold OneRun; rw [hW]; exact heap_alloc_new wc _
            have HK : Hid (∀ W w1 : World, W.grownBy w1 (some g) → W.heap = (wc.alloc (.cells #[.int .i64 (r2.1 : Int), .int .i64 (r2.2 : Int)] 97)).heap → w1.cell? ⟨hb0, 2, none⟩ = some (.slice (some ⟨g, 0, none⟩) l.length k) ∧ w1.frozen? ⟨hb0, 2, none⟩ = false ∧ w1.heap[hb0]? = w.heap[hb0]?) := Lib.hid fun W w1 hg hW => by
              have h1 : w1.heap[hb0]? = wc.heap[hb0]? := (hg.block hb0 (by rw [hW]; simp; omega) (fun e => HNE.out (Option.some.inj e))).trans (by rw [hW]; exact Below.heap_alloc wc _ hb0 (by omega))
              exact ⟨(World.cell?_of_block (a := ⟨hb0, 2, none⟩) h1).trans d2, (World.frozen?_of_block (a := ⟨hb0, 2, none⟩) h1).trans d3, h1.trans (hb.block hb0 hlt)⟩
            have hhz : hb0 < wc.heap.size := by omega
            have hgz : g < wc.heap.size := by omega
            have hz0 : Hid (wc.heap.size ≤ (wc.alloc (.cells #[.int .i64 (r2.1 : Int), .int .i64 (r2.2 : Int)] 97)).heap.size) := Lib.hid (by simp)
            clear hb ho
            go_wp2_with fail
            go_region_with (first | (go_at_call 112; go_loud (refine (replace_any g k i1 j1 wc.heap.size r2 l _ ?_ ?_ (by omega) (by omega) (by omega) (by omega)).mono ?_; exact RR.out _ rfl; exact OO.out _ rfl; rintro e w1 ⟨g', k', rfl, h1, h2, h3⟩; obtain ⟨m1, m2, m3⟩ := HK.out _ _ h2 rfl; have M3 := Lib.hid m3; have H1 := Lib.hid h1; have H2 := Lib.hid h2; have H3 := Lib.hid h3; clear m3 h1 h2 h3)))
            all_goals
              go_end0
              refine ⟨rfl, ?_⟩
              rw [HE.out]
              have hH3 : g' = g ∨ wc.heap.size + 1 ≤ g' := by
                rcases H3.out with h | h
                · exact .inl h
                · simp at h
                  exact .inr h
              have hne2 : hb0 ≠ g' := by
                rcases hH3 with h | h
                · rw [h]; exact HNE.out
                · omega
              refine ⟨g', k', (HH.out.keep M3.out).set2 _, H1.out.keep (Below.heap_setCell _ _ _ _ (fun e => hne2 e.symm)), ?_, ?_⟩
              · exact ((((Turned.of_below HG4.out.1).alloc _).drew).then (Turned.of_grown H2.out) (fun i hi => .inl (.inr hi))).setCell _ _ (.inl rfl)
              · rcases hH3 with h | h
                · exact .inl h
                · exact .inr (by omega)
end Go.Proofs.YtdkbgdjkdalalaaGreatDoor
