/-
  The walks of the free runs' take and give, at a heap's own field.
-/
import Derived.Test.YtdkbgdjkdalalaaGreatDoorHRep
import Derived.Test.YtdkbgdjkdalalaaGreatDoorHSearch
namespace Go.Proofs.YtdkbgdjkdalalaaGreatDoor
open Go.RowKit
/-- What was there stands, but for the blocks of S. -/
structure Turned (S : Nat → Prop) (w w' : World) : Prop where
  os : w'.os = w.os
  tape : w'.tape = w.tape
  output : w'.output = w.output
  size : w.heap.size ≤ w'.heap.size
  block : ∀ k, k < w.heap.size → ¬ S k → w'.heap[k]? = w.heap[k]?
theorem Turned.refl (S : Nat → Prop) (w : World) : Turned S w w := ⟨rfl, rfl, rfl, Nat.le_refl _, fun _ _ _ => rfl⟩
theorem Turned.trans {S : Nat → Prop} {a b c : World} (h : Turned S a b) (k : Turned S b c) : Turned S a c :=
  ⟨k.os.trans h.os, k.tape.trans h.tape, k.output.trans h.output, Nat.le_trans h.size k.size, fun i hi hn => (k.block i (Nat.lt_of_lt_of_le hi h.size) hn).trans (h.block i hi hn)⟩
/-- A second step may turn what the first one made, too. -/
theorem Turned.then {S T : Nat → Prop} {a b c : World} (h : Turned S a b) (k : Turned T b c) (hT : ∀ i, T i → S i ∨ a.heap.size ≤ i) : Turned S a c :=
  ⟨k.os.trans h.os, k.tape.trans h.tape, k.output.trans h.output, Nat.le_trans h.size k.size, fun i hi hn => (k.block i (Nat.lt_of_lt_of_le hi h.size) (fun t => by rcases hT i t with h1 | h1; exact hn h1; omega)).trans (h.block i hi hn)⟩
theorem Turned.mono {S T : Nat → Prop} {w w' : World} (h : Turned S w w') (hT : ∀ i, S i → T i) : Turned T w w' := ⟨h.os, h.tape, h.output, h.size, fun k hk hn => h.block k hk (fun s => hn (hT k s))⟩
theorem Turned.of_below {S : Nat → Prop} {w w' : World} (h : Below w.heap.size w w') : Turned S w w' := ⟨h.os, h.tape, h.output, h.size, fun k hk _ => h.block k hk⟩
theorem Turned.of_grown {g : Nat} {w w' : World} (h : w.grownBy w' (some g)) : Turned (· = g) w w' := ⟨h.os, h.tape, h.output, h.size, fun k hk hn => h.block k hk (fun e => hn (Option.some.inj e))⟩
theorem Turned.drew {S : Nat → Prop} {a w : World} (h : Turned S a w) : Turned S a w.drew := ⟨h.os, h.tape, h.output, h.size, h.block⟩
theorem Turned.undrew {S : Nat → Prop} {a w : World} (h : Turned S a.drew w) : Turned S a w := ⟨h.os, h.tape, h.output, h.size, h.block⟩
theorem Turned.setCell {S : Nat → Prop} {a w : World} (h : Turned S a w) (p : Addr) (v : Value) (hp : S p.block) : Turned S a (w.setCell p v) :=
  ⟨h.os, h.tape, h.output, by simpa [World.setCell] using h.size, fun i hi hn => (Below.heap_setCell w p v i (fun e => hn (by rw [e]; exact hp))).trans (h.block i hi hn)⟩
theorem Turned.alloc {S : Nat → Prop} {a w : World} (h : Turned S a w) (o : Obj) : Turned S a (w.alloc o) :=
  ⟨h.os, h.tape, h.output, Nat.le_trans h.size (by simp), fun i hi hn => (Below.heap_alloc w o i (Nat.lt_of_lt_of_le hi h.size)).trans (h.block i hi hn)⟩
/-- The block of a heap's own fields. -/
def Head (w : World) (hb : Nat) (cv mv fv : Value) : Prop := w.heap[hb]? = some (.cells #[cv, mv, fv] 101 (0, 0))
theorem Head.cell0 {w : World} {hb : Nat} {cv mv fv : Value} (h : Head w hb cv mv fv) : w.cell? ⟨hb, 0, none⟩ = some cv := by rw [Lib.cell_of_heap h]; rfl
theorem Head.cell1 {w : World} {hb : Nat} {cv mv fv : Value} (h : Head w hb cv mv fv) : w.cell? ⟨hb, 1, none⟩ = some mv := by rw [Lib.cell_of_heap h]; rfl
theorem Head.cell2 {w : World} {hb : Nat} {cv mv fv : Value} (h : Head w hb cv mv fv) : w.cell? ⟨hb, 2, none⟩ = some fv := by rw [Lib.cell_of_heap h]; rfl
theorem Head.frozen {w : World} {hb : Nat} {cv mv fv : Value} (h : Head w hb cv mv fv) (i : Nat) : w.frozen? ⟨hb, i, none⟩ = false := Lib.frozen_of_heap h i
theorem Head.lt {w : World} {hb : Nat} {cv mv fv : Value} (h : Head w hb cv mv fv) : hb < w.heap.size := lt_of_heap h
theorem Head.set2 {w : World} {hb : Nat} {cv mv fv : Value} (h : Head w hb cv mv fv) (v : Value) : Head (w.setCell ⟨hb, 2, none⟩ v) hb cv mv v := by
  unfold Head
  rw [heap_setCell_same w hb 2 _ _ v h]
  rfl
theorem Head.keep {w w' : World} {hb : Nat} {cv mv fv : Value} (h : Head w hb cv mv fv) (hk : w'.heap[hb]? = w.heap[hb]?) : Head w' hb cv mv fv := hk.trans h
theorem Head.ne {w : World} {hb g k : Nat} {cv mv fv : Value} {l : List (Nat × Nat)} (h : Head w hb cv mv fv) (hr : Runs w g k l) : hb ≠ g := by
  rintro rfl
  obtain ⟨cur, _, hg, _⟩ := own_open hr
  unfold Head at h
  rw [h] at hg
  injection hg with hg
  injection hg with _ ht
  exact absurd ht (by decide)
/-- The free runs behind a call on them: the head's field tells the row anew. -/
def FreeAfter (hb g : Nat) (cv mv : Value) (l : List (Nat × Nat)) (w w' : World) : Prop :=
  ∃ g' k', Head w' hb cv mv (.slice (some ⟨g', 0, none⟩) l.length k') ∧ Runs w' g' k' l ∧ Turned (fun b => b = hb ∨ b = g) w w' ∧ (g' = g ∨ w.heap.size ≤ g')
/-- The first run that has n cells, shortened; nothing where there is none. -/
def takeRuns (l : List (Nat × Nat)) (n : Nat) : List (Nat × Nat) :=
  if fitAt l n < l.length then
    (if (l.getD (fitAt l n) (0, 0)).2 = n then dropAt l (fitAt l n) else l.set (fitAt l n) ((l.getD (fitAt l n) (0, 0)).1 + n, (l.getD (fitAt l n) (0, 0)).2 - n))
  else l
def takeAddr (l : List (Nat × Nat)) (n : Nat) : Nat := if fitAt l n < l.length then (l.getD (fitAt l n) (0, 0)).1 else 0
def TakeMade (hb g : Nat) (cv mv : Value) (l : List (Nat × Nat)) (n : Nat) (w : World) (e : Ending) (w' : World) : Prop :=
  e = .returned (.int .i64 (takeAddr l n : Nat)) ∧ FreeAfter hb g cv mv (takeRuns l n) w w'
/-- Each run lies within 65536 cells. -/
def Within (l : List (Nat × Nat)) : Prop := ∀ i, (l.getD i (0, 0)).1 + (l.getD i (0, 0)).2 ≤ 65536
theorem take_none (hb g k n : Nat) (cv mv : Value) (l : List (Nat × Nat)) (w : World) (hh : Head w hb cv mv (.slice (some ⟨g, 0, none⟩) l.length k)) (hr : Runs w g k l) (hn : l.length ≤ 65000) (hf : ¬ fitAt l n < l.length) :
    Calls Tryz.prog 87 #[.pointer (some ⟨hb, 2, none⟩), .int .i64 (n : Int)] w (TakeMade hb g cv mv l n w) := by
  have c2 := hh.cell2
  have hlt := hh.lt
  have hgl := hr.lt
  have HH := Lib.hid hh
  have hr1 : Hid (Runs (w.alloc (.cells #[.int .i64 (n : Int)] 3)) g k l) := Lib.hid (hr.keep (Below.heap_alloc w _ g hr.lt))
  have HR := Lib.hid hr
  have HI := Lib.hid (show fitInt l n = -1 by unfold fitInt; rw [if_neg hf])
  have HF := Lib.hid hf
  clear hh hr hf
  go_enter Tryz.func87, Tryz.ntmps87
  go_wp2_with fail
  refine (indexFunc_any g k n w.heap.size l _ hr1.out (by simp) (by omega)).mono ?_
  rw [HI.out]
  rintro e w1 ⟨rfl, hb1⟩
  have HB := Lib.hid hb1
  clear hb1
  go_wp2_with fail
  go_ret
  have hbb : Below w.heap.size w w1 := ((Below.refl _ w).alloc (Nat.le_refl _) _).trans (HB.out.mono (by simp))
  refine ⟨ret_int (by unfold takeAddr; rw [if_neg HF.out]; rfl), g, k, ?_, ?_, Turned.of_below hbb, .inl rfl⟩
  · unfold takeRuns
    rw [if_neg HF.out]
    exact HH.out.keep (hbb.block _ hlt)
  · unfold takeRuns
    rw [if_neg HF.out]
    exact HR.out.keep (hbb.block _ hgl)
theorem take_whole (hb g k n : Nat) (cv mv : Value) (l : List (Nat × Nat)) (w : World) (hh : Head w hb cv mv (.slice (some ⟨g, 0, none⟩) l.length k)) (hr : Runs w g k l) (hn : l.length ≤ 65000) (hf : fitAt l n < l.length) (he : (l.getD (fitAt l n) (0, 0)).2 = n) :
    Calls Tryz.prog 87 #[.pointer (some ⟨hb, 2, none⟩), .int .i64 (n : Int)] w (TakeMade hb g cv mv l n w) := by
  have c2 := hh.cell2
  have hlt := hh.lt
  have hgl := hr.lt
  have HNE := Lib.hid (hh.ne hr)
  have HH := Lib.hid hh
  have hr1 : Hid (Runs (w.alloc (.cells #[.int .i64 (n : Int)] 3)) g k l) := Lib.hid (hr.keep (Below.heap_alloc w _ g hr.lt))
  have HR := Lib.hid hr
  have HI := Lib.hid (show fitInt l n = (fitAt l n : Nat) by unfold fitInt; rw [if_pos hf])
  have HA := Lib.hid (show takeAddr l n = (l.getD (fitAt l n) (0, 0)).1 by unfold takeAddr; rw [if_pos hf])
  have HT := Lib.hid (show takeRuns l n = dropAt l (fitAt l n) by unfold takeRuns; rw [if_pos hf, if_pos he])
  have a1 := hr.at1 _ hf
  have a2 := hr.at2 _ hf
  rw [he] at a2
  generalize (l.getD (fitAt l n) (0, 0)).1 = ra at *
  generalize fitAt l n = i at *
  clear hh hr he
  go_enter Tryz.func87, Tryz.ntmps87
  go_wp2_with fail
  refine (indexFunc_any g k n w.heap.size l _ hr1.out (by simp) (by omega)).mono ?_
  rw [HI.out]
  rintro e w1 ⟨rfl, hb1⟩
  have hbb : Below w.heap.size w w1 := ((Below.refl _ w).alloc (Nat.le_refl _) _).trans (hb1.mono (by simp))
  have cq : w1.cell? ⟨w.heap.size, 0, none⟩ = some (.int .i64 (n : Int)) := (hb1.cell (p := ⟨w.heap.size, 0, none⟩) (by simp)).trans (by simp)
  have hz := hb1.size
  simp at hz
  have hz' : w.heap.size < w1.heap.size := by omega
  have b1 := (hbb.cell (p := ⟨g, i * 2, none⟩) hgl).trans a1
  have b2 := (hbb.cell (p := ⟨g, i * 2 + 1, none⟩) hgl).trans a2
  have d2 := (hbb.cell (p := ⟨hb, 2, none⟩) hlt).trans c2
  have f2 := (hbb.frozen (p := ⟨hb, 2, none⟩) hlt).trans (HH.out.frozen 2)
  have HB := Lib.hid hbb
  clear hb1 hbb
  have hg1 : g < w1.heap.size := by omega
  have hh1 : hb < w1.heap.size := by omega
  go_wp2_with fail
  refine (delete_any g k i l _ (HR.out.keep ((Below.heap_alloc w1 _ g hg1).trans (HB.out.block _ hgl))) hf (by omega)).mono ?_
  rintro e w2 ⟨g', k', rfl, hr2, hgr2, hg2⟩
  have HH2 := Lib.hid (HH.out.keep ((hgr2.block hb (by simp; omega) (fun e => HNE.out (Option.some.inj e))).trans ((Below.heap_alloc w1 _ hb hh1).trans (HB.out.block _ hlt))))
  have e2 := HH2.out.cell2
  have f3 := HH2.out.frozen 2
  have HR2 := Lib.hid hr2
  have HGR2 := Lib.hid hgr2
  have hrb : w2.cell? ⟨w1.heap.size, 0, none⟩ = some (.int .i64 (ra : Int)) := (World.cell?_of_block (hgr2.block w1.heap.size (by simp) (fun e => by have := Option.some.inj e; omega))).trans (by simp)
  have HG2 := Lib.hid hg2
  clear hr2 hgr2 hg2
  go_wp2_with fail
  go_ret
  refine ⟨ret_int (by rw [HA.out]), ?_⟩
  rw [HT.out]
  have hne2 : hb ≠ g' := by
    rcases HG2.out with h | h
    · rw [h]; exact HNE.out
    · simp at h; omega
  refine ⟨g', k', HH2.out.set2 _, HR2.out.keep (Below.heap_setCell _ _ _ _ (fun e => hne2 e.symm)), ?_, ?_⟩
  · exact ((((Turned.of_below HB.out).alloc _).then (Turned.of_grown HGR2.out) (fun i hi => .inl (.inr hi))).setCell _ _ (.inl rfl))
  · rcases HG2.out with h | h
    · exact .inl h
    · simp at h
      exact .inr (by omega)
theorem rcs_set (l : List (Nat × Nat)) (i : Nat) (r : Nat × Nat) : ((rcs l).set (i * 2) (.int .i64 (r.1 : Int))).set (i * 2 + 1) (.int .i64 (r.2 : Int)) = rcs (l.set i r) := by
  induction l generalizing i with
  | nil => simp [rcs]
  | cons x l ih =>
    cases i with
    | zero => simp [rcs_cons]
    | succ i =>
      rw [rcs_cons, show (i + 1) * 2 = i * 2 + 1 + 1 by omega, show i * 2 + 1 + 1 + 1 = (i * 2 + 1) + 1 + 1 by omega]
      simp only [List.set_cons_succ]
      rw [ih, rcs_cons]
theorem Runs.put {w : World} {g k : Nat} {l : List (Nat × Nat)} (h : Runs w g k l) (i : Nat) (r : Nat × Nat) :
    Runs ((w.setCell ⟨g, i * 2, none⟩ (.int .i64 (r.1 : Int))).setCell ⟨g, i * 2 + 1, none⟩ (.int .i64 (r.2 : Int))) g k (l.set i r) := by
  have h1 := (World.ownsRow.stored (World.ownsRow.stored h (i * 2) (.int .i64 (r.1 : Int))).1 (i * 2 + 1) (.int .i64 (r.2 : Int))).1
  rw [rcs_set] at h1
  unfold Runs
  rw [List.length_set]
  exact h1
theorem take_part (hb g k n : Nat) (cv mv : Value) (l : List (Nat × Nat)) (w : World) (hh : Head w hb cv mv (.slice (some ⟨g, 0, none⟩) l.length k)) (hr : Runs w g k l) (hn : l.length ≤ 65000) (hw : Within l) (hf : fitAt l n < l.length) (hle : n ≤ (l.getD (fitAt l n) (0, 0)).2) (he : ¬ (l.getD (fitAt l n) (0, 0)).2 = n) :
    Calls Tryz.prog 87 #[.pointer (some ⟨hb, 2, none⟩), .int .i64 (n : Int)] w (TakeMade hb g cv mv l n w) := by
  have c2 := hh.cell2
  have hlt := hh.lt
  have hgl := hr.lt
  have HNE := Lib.hid (hh.ne hr)
  have HH := Lib.hid hh
  have hr1 : Hid (Runs (w.alloc (.cells #[.int .i64 (n : Int)] 3)) g k l) := Lib.hid (hr.keep (Below.heap_alloc w _ g hr.lt))
  have HR := Lib.hid hr
  have HI := Lib.hid (show fitInt l n = (fitAt l n : Nat) by unfold fitInt; rw [if_pos hf])
  have HA := Lib.hid (show takeAddr l n = (l.getD (fitAt l n) (0, 0)).1 by unfold takeAddr; rw [if_pos hf])
  have HT := Lib.hid (show takeRuns l n = l.set (fitAt l n) ((l.getD (fitAt l n) (0, 0)).1 + n, (l.getD (fitAt l n) (0, 0)).2 - n) by unfold takeRuns; rw [if_pos hf, if_neg he])
  have a1 := hr.at1 _ hf
  have a2 := hr.at2 _ hf
  have hwi := hw (fitAt l n)
  generalize l.getD (fitAt l n) (0, 0) = rr at *
  obtain ⟨ra, rn⟩ := rr
  simp only at *
  generalize fitAt l n = i at *
  have B0 : ((rn : Int) == (n : Int)) = false := by simp; omega
  clear hh hr he hw
  go_enter Tryz.func87, Tryz.ntmps87
  go_wp2_with fail
  refine (indexFunc_any g k n w.heap.size l _ hr1.out (by simp) (by omega)).mono ?_
  rw [HI.out]
  rintro e w1 ⟨rfl, hb1⟩
  have hbb : Below w.heap.size w w1 := ((Below.refl _ w).alloc (Nat.le_refl _) _).trans (hb1.mono (by simp))
  have cq : w1.cell? ⟨w.heap.size, 0, none⟩ = some (.int .i64 (n : Int)) := (hb1.cell (p := ⟨w.heap.size, 0, none⟩) (by simp)).trans (by simp)
  have hz := hb1.size
  simp at hz
  have hz' : w.heap.size < w1.heap.size := by omega
  have b1 := (hbb.cell (p := ⟨g, i * 2, none⟩) hgl).trans a1
  have b2 := (hbb.cell (p := ⟨g, i * 2 + 1, none⟩) hgl).trans a2
  have d2 := (hbb.cell (p := ⟨hb, 2, none⟩) hlt).trans c2
  have f2 := (hbb.frozen (p := ⟨g, i * 2, none⟩) hgl).trans (HR.out.frozen (i * 2))
  have f3 := (hbb.frozen (p := ⟨g, i * 2 + 1, none⟩) hgl).trans (HR.out.frozen (i * 2 + 1))
  have HB := Lib.hid hbb
  clear hb1 hbb
  have hg1 : g < w1.heap.size := by omega
  have hh1 : hb < w1.heap.size := by omega
  have hwr1 : IntKind.i64.wrap ((ra : Int) + (n : Int)) = (ra : Int) + (n : Int) := by rw [IntKind.wrap_i64]; omega
  have hwr2 : IntKind.i64.wrap ((rn : Int) - (n : Int)) = (rn : Int) - (n : Int) := by rw [IntKind.wrap_i64]; omega
  go_wp2_with fail
  go_region
  clear hwr1 hwr2
  go_wp2_with fail
  go_ret
  refine ⟨ret_int (by rw [HA.out]), ?_⟩
  rw [HT.out]
  have hrw := Runs.put ((HR.out.keep (HB.out.block _ hgl)) : Runs w1 g k l) i (ra + n, rn - n)
  rw [show ((ra + n : Nat) : Int) = (ra : Int) + (n : Int) by omega, show ((rn - n : Nat) : Int) = (rn : Int) - (n : Int) by omega] at hrw
  refine ⟨g, k, ?_, (hrw.keep (Below.heap_alloc _ _ g (by simpa [World.setCell] using hg1))), ?_, .inl rfl⟩
  · rw [List.length_set]
    refine Head.keep (HH.out.keep (HB.out.block _ hlt)) ?_
    refine (Below.heap_alloc _ _ hb (by simpa [World.setCell] using hh1)).trans ?_
    rw [Below.heap_setCell _ _ _ _ HNE.out, Below.heap_setCell _ _ _ _ HNE.out]
  · exact ((((Turned.of_below HB.out).setCell _ _ (.inr rfl)).setCell _ _ (.inr rfl)).alloc _).drew
theorem fitAt_le (l : List (Nat × Nat)) (n : Nat) (h : fitAt l n < l.length) : n ≤ (l.getD (fitAt l n) (0, 0)).2 := by
  unfold fitAt at *
  have h1 := List.findIdx_getElem (xs := l) (p := fun r => decide (n ≤ r.2)) (w := h)
  rw [List.getD_eq_getElem?_getD, List.getElem?_eq_getElem h]
  simpa using h1
theorem take_any (hb g k n : Nat) (cv mv : Value) (l : List (Nat × Nat)) (w : World) (hh : Head w hb cv mv (.slice (some ⟨g, 0, none⟩) l.length k)) (hr : Runs w g k l) (hn : l.length ≤ 65000) (hw : Within l) :
    Calls Tryz.prog 87 #[.pointer (some ⟨hb, 2, none⟩), .int .i64 (n : Int)] w (TakeMade hb g cv mv l n w) := by
  by_cases hf : fitAt l n < l.length
  · by_cases he : (l.getD (fitAt l n) (0, 0)).2 = n
    · exact take_whole hb g k n cv mv l w hh hr hn hf he
    · exact take_part hb g k n cv mv l w hh hr hn hw hf (fitAt_le l n hf) he
  · exact take_none hb g k n cv mv l w hh hr hn hf
end Go.Proofs.YtdkbgdjkdalalaaGreatDoor
