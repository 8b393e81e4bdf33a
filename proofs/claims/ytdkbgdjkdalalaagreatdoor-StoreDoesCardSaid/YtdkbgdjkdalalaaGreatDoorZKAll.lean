/-
  The document's own collector: 'without'; how it lies in memory; 'White'.
  The document's own collector: 'shade', 'New'.
  The document's own collector: 'New', 'Begin'.
  The document's own collector: its list of black grows; its heap has turned; 'Alloc'.
  The document's own collector: 'Finish', over what 'Step' does (to be proved: its contract is a premise here).
  The document's own collector: a whole new row of grey, of black (what 'without' gives).
  The document's own collector: 'Write'.
  The document's own collector: 'Step'.
  The document's own collector: 'Step' while it sweeps; 'Step' and 'Finish' whole.
-/
import Derived.Test.YtdkbgdjkdalalaaGreatDoorZGAll
import Derived.Test.YtdkbgdjkdalalaaGreatDoorGFinish
import Derived.Deep.RegionHeld3
namespace Go.Proofs.YtdkbgdjkdalalaaGreatDoor
open Go.RowKit
def MadeRow (l : List Nat) (w : World) (e : Ending) (w' : World) : Prop := ∃ v, e = .returned v ∧ Grows w.heap.size w w' v l
theorem without_same {l : List Nat} {i a : Nat} (h : i < l.length) (he : l.getD i 0 = a) : without (l.take (i + 1)) a = without (l.take i) a := by
  rw [take_snoc_get h, he]
  unfold without
  rw [List.filter_append]
  simp
theorem without_more {l : List Nat} {i a : Nat} (h : i < l.length) (he : l.getD i 0 ≠ a) : without (l.take (i + 1)) a = without (l.take i) a ++ [l.getD i 0] := by
  rw [take_snoc_get h]
  generalize l.getD i 0 = x at *
  unfold without
  rw [List.filter_append]
  simp [he]
set_option maxHeartbeats 2000000 in
set_option maxRecDepth 100000 in
theorem without_any (A : Option Addr) (l : List Nat) (c : Nat) (a : Nat) (w : World) (h : SeenInts w A l) (hn : l.length ≤ 1000000) :
    Calls Tryz.prog 77 #[.slice A l.length c, .int .i64 (a : Int)] w (MadeRow (without l a) w) := by
  obtain ⟨i0, hi0, hz0, hz1, hz2⟩ := info_parts infoInt
  have HS := Lib.hid h
  clear h
  have HG0 : Hid (Grows w.heap.size w (w.alloc (.cells #[] 3)) (.slice (some ⟨w.heap.size, 0, none⟩) 0 0) (without (l.take 0) a)) := Lib.hid ⟨⟨⟨rfl, .inr ⟨w.heap.size, 0, #[], rfl, Nat.zero_le _, heap_alloc_new w _, Nat.le_refl _, by unfold maxLen; decide, rfl, rfl⟩⟩, fun g hg => by have := Option.some.inj hg; exact Nat.le_of_eq this⟩, below_one _, by simp⟩
  go_enter Tryz.func77, Tryz.ntmps77
  go_wp2_with fail
  go_loopw [6, 5] (fun vi vv wr => ∃ (i : Nat) (v : Value), i ≤ l.length ∧ vi = .int .i64 i ∧ v = vv ∧ Hid (Grows w.heap.size w wr v (without (l.take i) a))) (fun vi _ _ => l.length - (intOf vi).toNat)
  case atStart => exact ⟨0, _, by omega, by go_num, rfl, HG0⟩
  case round =>
    obtain ⟨i, vv, hi, rfl, rfl, HG⟩ := hrel
    clear HG0
    by_cases hil : i < l.length
    · have g4 : decide ((i : Int) < (l.length : Int)) = true := decide_eq_true (by omega)
      have g4' : decide (i < l.length) = true := decide_eq_true hil
      obtain ⟨b, rfl, hbl, kb0⟩ := HS.out i hil
      have kb := (HG.out.2.1.cell (p := ⟨b, i, none⟩) hbl).trans kb0
      have hbr : b < wr.heap.size := Nat.lt_of_lt_of_le hbl HG.out.2.1.size
      clear kb0
      by_cases he : l.getD i 0 = a
      · have HW := Lib.hid (without_same hil he)
        rw [he] at kb
        have B1 : ((a : Int) != (a : Int)) = false := by simp
        clear he
        have HN : Hid (Grows w.heap.size w wr vv (without (l.take (i + 1)) a)) := Lib.hid (by rw [HW.out]; exact HG.out)
        go_wp2_with fail
        go_roundw
        case rel => exact ⟨i + 1, _, by omega, by go_num, rfl, HN⟩
        case measure => simp [intOf]; omega
      · have HW := Lib.hid (without_more hil he)
        have B1 : (((l.getD i 0 : Nat) : Int) != (a : Int)) = true := by rw [bne_iff_ne]; omega
        have hwl : (without (l.take i) a).length ≤ i := by
          have h1 := List.length_filter_le (fun b => b != a) (l.take i)
          have h2 : (l.take i).length ≤ i := by simp; omega
          exact Nat.le_trans h1 h2
        clear he
        generalize l.getD i 0 = x at *
        generalize without (l.take i) a = k at *
        have hown : Hid ((wr.alloc (.cells #[.int .i64 (x : Int)] 3)).ownsRow 0 3 1 vv k.length (nums .i64 k)) := Lib.hid (HG.out.1.1.alloc _)
        have hsrc := Lib.hid (one_src wr x)
        have hone := Lib.hid (one_cell x)
        go_wp2_with (at_builtin; refine wpList_append_own_at _ rfl (.tmp 20) (.tmp 25) 44 rfl 0 3 i0 _ 1 8 Tryz.underlying44 hi0 hz0 hz1 hz2 rfl (by decide) _ _ _ rfl hown.out ⟨wr.heap.size, 0, none⟩ 1 1 [.int .i64 (x : Int)] rfl rfl hsrc.out hone.out (by unfold maxLen; omega) (by omega) (Nat.zero_le _) ?_)
        intro v1 w6 hown1 hgr1 hnn1 hat1
        have HN : Hid (Grows w.heap.size w w6 v1 (without (l.take (i + 1)) a)) := Lib.hid (by
          rw [HW.out]
          exact HG.out.push hown1 hgr1 (by simpa using hat1))
        clear hown1 hgr1 hnn1 hat1 hown hsrc hone
        go_wp2_with fail
        go_roundw
        case rel => exact ⟨i + 1, _, by omega, by go_num, rfl, HN⟩
        case measure => simp [intOf]; omega
    · have g4 : decide ((i : Int) < (l.length : Int)) = false := decide_eq_false (by omega)
      have g4' : decide (i < l.length) = false := decide_eq_false hil
      obtain rfl : i = l.length := by omega
      have HE : Hid (Grows w.heap.size w wr vv (without l a)) := Lib.hid (by
        have := HG.out
        rw [List.take_length] at this
        exact this)
      go_wp2_with fail
      go_ret
      exact ⟨_, rfl, HE.out⟩
/-- How it lies in memory: block k, over the document's own heap at block r; all of its blocks are among U. -/
structure KMem (w : World) (k r : Nat) (U : Nat → Prop) (m : Nat) (s : GS) (S : Nat → Prop) (vG vB : Value) : Prop where
  heap : RefAt w r S m s.L
  block : w.heap[k]? = some (.cells #[.pointer (some ⟨r, 0, none⟩), .int .i64 (s.ph : Int), vG, vB, .int .i64 (s.pos : Int)] 48 (0, 0))
  greys : IntRow w (fun b => U b ∧ b ≠ k ∧ ¬ S b) vG s.G
  blacks : IntRow w (fun b => U b ∧ b ≠ k ∧ ¬ S b ∧ vG.ownBlock ≠ some b) vB s.B
  inU : ∀ b, S b → U b
  kU : U k
  kS : ¬ S k
  sb : ∀ b, S b → b < w.heap.size
  inv : GInv m s
  few : m ≤ 65536
def KAt (w : World) (k r : Nat) (U : Nat → Prop) (m : Nat) (s : GS) : Prop := ∃ S vG vB, KMem w k r U m s S vG vB
theorem grey_few {m : Nat} {s : GS} (h : GInv m s) (hm : m ≤ 65536) : s.G.length ≤ 65536 := by
  have h2 := nodup_le (m := s.L.map Ob.at_) h.gnd (fun a ha => by
    obtain ⟨o, ho⟩ := isIn_some (h.gin a ha)
    have h2 := find_mem ho
    exact List.mem_map.2 ⟨o, h2.1, h2.2⟩)
  have h3 := lies_len h.lies hm
  simp only [List.length_map] at h2
  omega
theorem KMem.head {w : World} {k r m : Nat} {U S : Nat → Prop} {s : GS} {vG vB : Value} (h : KMem w k r U m s S vG vB) :
    w.cell? ⟨k, 0, none⟩ = some (.pointer (some ⟨r, 0, none⟩)) ∧ w.cell? ⟨k, 1, none⟩ = some (.int .i64 (s.ph : Int)) ∧ w.cell? ⟨k, 2, none⟩ = some vG ∧ w.cell? ⟨k, 3, none⟩ = some vB ∧ w.cell? ⟨k, 4, none⟩ = some (.int .i64 (s.pos : Int)) ∧ (∀ i, w.frozen? ⟨k, i, none⟩ = false) ∧ k < w.heap.size :=
  ⟨by rw [Lib.cell_of_heap h.block]; rfl, by rw [Lib.cell_of_heap h.block]; rfl, by rw [Lib.cell_of_heap h.block]; rfl, by rw [Lib.cell_of_heap h.block]; rfl, by rw [Lib.cell_of_heap h.block]; rfl, Lib.frozen_of_heap h.block, lt_of_heap h.block⟩
theorem inB_int (l : List Nat) (a : Int) (h : 0 ≤ a) : inB l a = decide (a.toNat ∈ l) := by
  rw [← inB_nat, Int.toNat_of_nonneg h]
theorem isIn_at {L : List Ob} {a : Nat} : IsIn L a ↔ ∃ (j : Nat) (o : Ob), L[j]? = some o ∧ o.at_ = a := by
  constructor
  · intro h
    obtain ⟨o, ho⟩ := isIn_some h
    obtain ⟨hm, ha⟩ := find_mem ho
    obtain ⟨j, hj, rfl⟩ := List.getElem_of_mem hm
    exact ⟨j, _, List.getElem?_eq_getElem hj, ha⟩
  · rintro ⟨j, o, hj, rfl⟩
    cases hf : findOb L o.at_ with
    | none =>
      exfalso
      have hm := List.mem_of_getElem? hj
      clear hj
      induction L with
      | nil => cases hm
      | cons x L ih =>
        unfold findOb at hf
        split at hf
        · cases hf
        · rename_i hx
          rcases List.mem_cons.1 hm with rfl | hm
          · exact hx rfl
          · exact ih hf hm
    | some x => exact isIn_of hf
set_option maxHeartbeats 2000000 in
set_option maxRecDepth 100000 in
theorem kwhite_any (k r m : Nat) (U : Nat → Prop) (s : GS) (w : World) (h : KAt w k r U m s) (a : Int) :
    Calls Tryz.prog 79 #[.pointer (some ⟨k, 0, none⟩), .int .i64 a] w (BoolSame (decide (0 ≤ a ∧ s.White a.toNat)) w) := by
  obtain ⟨S, vG, vB, hm⟩ := h
  have hhd := hm.head
  obtain ⟨c0, c1, c2, c3, c4, _, hkl⟩ := hhd
  have hF := Lib.hid (ref_Find r S m s.L a w hm.heap (lies_len hm.inv.lies hm.few))
  obtain ⟨AG, cG, rfl, hsG⟩ := hm.greys.seen
  obtain ⟨AB, cB, rfl, hsB⟩ := hm.blacks.seen
  have hgl := grey_few hm.inv hm.few
  have hbl : s.B.length ≤ 65536 := by have := black_few hm.inv; have := hm.few; omega
  have HG := Lib.hid (in_any AG s.G cG a w hsG (by omega))
  have HBK := Lib.hid (in_any AB s.B cB a w hsB (by omega))
  clear hsG hsB hm
  go_enter Tryz.func79, Tryz.ntmps79
  go_wp2_with fail
  refine hF.out.mono ?_
  rintro e w' ⟨rfl, hfi⟩
  rcases hfi with ⟨rfl, hno⟩ | ⟨i, o, rfl, ho, ha⟩
  · have HV : Hid (decide (0 ≤ a ∧ s.White a.toNat) = false) := Lib.hid (decide_eq_false (by
      rintro ⟨h0, hw⟩
      obtain ⟨j, o, hj, ha⟩ := isIn_at.1 hw.1
      exact hno j o hj (by omega)))
    clear hno
    go_wp2_with fail
    go_ret
    exact ⟨ret_bool (by rw [HV.out]), rfl⟩
  · have hin : IsIn s.L a.toNat := isIn_at.2 ⟨i, o, ho, by omega⟩
    have h0 : 0 ≤ a := by omega
    have g0 : decide ((0 : Int) ≤ (i : Int)) = true := decide_eq_true (by omega)
    have HI := Lib.hid hin
    rw [inB_int _ _ h0] at HG HBK
    have HV : Hid (decide (0 ≤ a ∧ s.White a.toNat) = (!decide (a.toNat ∈ s.G) && !decide (a.toNat ∈ s.B))) := Lib.hid (by
      unfold GS.White
      by_cases h1 : a.toNat ∈ s.G <;> by_cases h2 : a.toNat ∈ s.B <;> simp [h1, h2, h0, HI.out])
    clear hin ho ha
    generalize decide (a.toNat ∈ s.G) = bG at *
    generalize decide (a.toNat ∈ s.B) = bB at *
    go_wp2_with fail
    refine HG.out.mono ?_
    rintro e w' ⟨rfl, rfl⟩
    cases bG with
    | true =>
      go_wp2_with fail
      go_ret
      exact ⟨ret_bool (by rw [HV.out]; rfl), rfl⟩
    | false =>
      go_wp2_with fail
      refine HBK.out.mono ?_
      rintro e w' ⟨rfl, rfl⟩
      cases bB with
      | true =>
        go_wp2_with fail
        go_ret
        exact ⟨ret_bool (by rw [HV.out]; rfl), rfl⟩
      | false =>
        go_wp2_with fail
        go_ret
        exact ⟨ret_bool (by rw [HV.out]; rfl), rfl⟩
def KStep (k r : Nat) (U : Nat → Prop) (m : Nat) (s : GS) (w w' : World) : Prop := KAt w' k r (fun b => U b ∨ w.heap.size ≤ b) m s ∧ Turned U w w'
def KDone (k r : Nat) (U : Nat → Prop) (m : Nat) (s : GS) (w : World) (e : Ending) (w' : World) : Prop := e = .returned (.tuple #[]) ∧ KStep k r U m s w w'
theorem KAt.mono {w : World} {k r m : Nat} {U V : Nat → Prop} {s : GS} (h : KAt w k r U m s) (hV : ∀ b, U b → V b) : KAt w k r V m s := by
  obtain ⟨S, vG, vB, h⟩ := h
  exact ⟨S, vG, vB, h.heap, h.block, ⟨h.greys.1, fun b hb => by have := h.greys.2 b hb; exact ⟨hV b this.1, this.2⟩⟩, ⟨h.blacks.1, fun b hb => by have := h.blacks.2 b hb; exact ⟨hV b this.1, this.2⟩⟩, fun b hS => hV b (h.inU b hS), hV k h.kU, h.kS, h.sb, h.inv, h.few⟩
theorem KStep.stay {w : World} {k r m : Nat} {U : Nat → Prop} {s : GS} (h : KAt w k r U m s) : KStep k r U m s w w := ⟨h.mono fun _ hU => .inl hU, Turned.refl _ _⟩
theorem KStep.then {w w1 w2 : World} {k r m : Nat} {U : Nat → Prop} {s t : GS} (h : KStep k r U m s w w1) (j : KStep k r (fun b => U b ∨ w.heap.size ≤ b) m t w1 w2) : KStep k r U m t w w2 := by
  refine ⟨j.1.mono ?_, h.2.then j.2 ?_⟩
  · rintro b ((hU | hb) | hb)
    · exact .inl hU
    · exact .inr hb
    · exact .inr (Nat.le_trans h.2.size hb)
  · rintro b (hU | hb)
    · exact .inl hU
    · exact .inr hb
/-- The same, and the heap's own blocks stand. -/
def KStepS (k r : Nat) (S U : Nat → Prop) (m : Nat) (s : GS) (w w' : World) : Prop := (∃ vG vB, KMem w' k r (fun b => U b ∨ w.heap.size ≤ b) m s S vG vB) ∧ Turned (fun b => U b ∧ ¬ S b) w w'
theorem KMem.mono {w : World} {k r m : Nat} {U V S : Nat → Prop} {s : GS} {vG vB : Value} (h : KMem w k r U m s S vG vB) (hV : ∀ b, U b → V b) : KMem w k r V m s S vG vB :=
  ⟨h.heap, h.block, ⟨h.greys.1, fun b hb => by have := h.greys.2 b hb; exact ⟨hV b this.1, this.2⟩⟩, ⟨h.blacks.1, fun b hb => by have := h.blacks.2 b hb; exact ⟨hV b this.1, this.2⟩⟩, fun b hS => hV b (h.inU b hS), hV k h.kU, h.kS, h.sb, h.inv, h.few⟩
theorem KStepS.out {k r m : Nat} {S U : Nat → Prop} {s : GS} {w w' : World} (h : KStepS k r S U m s w w') : KStep k r U m s w w' := ⟨⟨S, h.1⟩, h.2.mono fun _ hb => hb.1⟩
theorem KStepS.stay {w : World} {k r m : Nat} {U S : Nat → Prop} {s : GS} {vG vB : Value} (h : KMem w k r U m s S vG vB) : KStepS k r S U m s w w := ⟨⟨vG, vB, h.mono fun _ hU => .inl hU⟩, Turned.refl _ _⟩
theorem KStepS.then {w w1 w2 : World} {k r m : Nat} {U S : Nat → Prop} {s t : GS} (h : KStepS k r S U m s w w1) (j : KStepS k r S (fun b => U b ∨ w.heap.size ≤ b) m t w1 w2) : KStepS k r S U m t w w2 := by
  obtain ⟨⟨vG, vB, j1⟩, j2⟩ := j
  refine ⟨⟨vG, vB, j1.mono ?_⟩, h.2.then j2 ?_⟩
  · rintro b ((hU | hb) | hb)
    · exact .inl hU
    · exact .inr hb
    · exact .inr (Nat.le_trans h.2.size hb)
  · rintro b ⟨hU | hb, hS⟩
    · exact .inl ⟨hU, hS⟩
    · exact .inr hb
/-- A row of its own has grown by one, and lies in its cell again: grey. -/
theorem KMem.grey {w w4 : World} {k r m a : Nat} {U S : Nat → Prop} {s : GS} {vG vB v1 : Value} {ob : Obj} (h : KMem w k r U m s S vG vB) (ho : w4.ownsRow 0 3 1 v1 (s.G.length + 1) (nums .i64 s.G ++ [.int .i64 (a : Int)]))
    (hg : (w.alloc ob).grownBy w4 vG.ownBlock) (hat : v1.ownBlock = vG.ownBlock ∨ v1.ownBlock = some (w.alloc ob).heap.size) (hi : GInv m ⟨s.L, s.ph, s.G ++ [a], s.B, s.pos⟩) :
    w4.heap[k]? = some (.cells #[.pointer (some ⟨r, 0, none⟩), .int .i64 (s.ph : Int), vG, vB, .int .i64 (s.pos : Int)] 48 (0, 0)) ∧ KStepS k r S U m ⟨s.L, s.ph, s.G ++ [a], s.B, s.pos⟩ w (w4.setCell ⟨k, 2, none⟩ v1) := by
  have hkl := lt_of_heap h.block
  have hz : w.heap.size + 1 ≤ w4.heap.size := by have := hg.size; simpa using this
  have hb4 : ∀ b, b < w.heap.size → vG.ownBlock ≠ some b → w4.heap[b]? = w.heap[b]? := fun b hl hn => by
    rw [hg.block b (by simp; omega) (fun e => hn e.symm), Below.heap_alloc w _ b hl]
  have hgk : vG.ownBlock ≠ some k := fun hx => (h.greys.2 k hx).2.1 rfl
  have hk4 := (hb4 k hkl hgk).trans h.block
  have h1k : v1.ownBlock ≠ some k := fun hx => by
    rcases hat with hh | hh
    · exact hgk (hh.symm.trans hx)
    · rw [hh] at hx
      have := Option.some.inj hx
      simp at this
      omega
  have hb5 : ∀ b, b < w.heap.size → vG.ownBlock ≠ some b → b ≠ k → (w4.setCell ⟨k, 2, none⟩ v1).heap[b]? = w.heap[b]? := fun b hl hn hne => (heap_setCell_other w4 _ b _ hne).trans (hb4 b hl hn)
  have hsz : (w4.setCell ⟨k, 2, none⟩ v1).heap.size = w4.heap.size := by simp [World.setCell]
  have hset : ∀ b, v1.ownBlock = some b → (U b ∨ w.heap.size ≤ b) ∧ b ≠ k ∧ ¬ S b := fun b hb => by
    rcases hat with hh | hh
    · have := h.greys.2 b (hh.symm.trans hb)
      exact ⟨.inl this.1, this.2⟩
    · rw [hh] at hb
      have hb := Option.some.inj hb
      simp at hb
      exact ⟨.inr (by omega), by omega, fun hS => by have := h.sb b hS; omega⟩
  refine ⟨hk4, ⟨v1, vB, ?_, ?_, ⟨?_, hset⟩, ⟨?_, fun b hb => ?_⟩, fun b hS => .inl (h.inU b hS), .inl h.kU, h.kS, fun b hS => by rw [hsz]; have := h.sb b hS; omega, hi, h.few⟩, ?_⟩
  · exact h.heap.keep fun b hl hS => hb5 b hl (fun hx => (h.greys.2 b hx).2.2 hS) (fun he => h.kS (he ▸ hS))
  · rw [heap_setCell_same w4 k 2 _ _ _ hk4]; rfl
  · have h2 := own_keep (w' := w4.setCell ⟨k, 2, none⟩ v1) ho (fun x hx => heap_setCell_other w4 _ x _ (fun he => h1k (hx.trans (congrArg some he))))
    rw [nums_snoc] at h2
    show World.ownsRow _ _ _ _ _ (s.G ++ [a]).length _
    rw [List.length_append]
    exact h2
  · exact own_keep h.blacks.1 fun x hx => hb5 x (World.ownsRow.lt h.blacks.1 x hx).2 (h.blacks.2 x hx).2.2.2 (h.blacks.2 x hx).2.1
  · have hold := h.blacks.2 b hb
    refine ⟨.inl hold.1, hold.2.1, hold.2.2.1, fun hx => ?_⟩
    rcases hat with hh | hh
    · exact hold.2.2.2 (hh.symm.trans hx)
    · rw [hh] at hx
      have := Option.some.inj hx
      have := (World.ownsRow.lt h.blacks.1 b hb).2
      simp at *
      omega
  · have h1 : Turned (fun b => U b ∧ ¬ S b) w (w.alloc ob) := (Turned.refl _ w).alloc _
    have h2 : Turned (fun b => U b ∧ ¬ S b) w w4 := by
      refine ⟨hg.os.trans h1.os, hg.tape.trans h1.tape, hg.output.trans h1.output, Nat.le_trans h1.size hg.size, fun b hl hn => hb4 b hl fun hx => hn ⟨(h.greys.2 b hx).1, (h.greys.2 b hx).2.2⟩⟩
    exact h2.setCell _ _ ⟨h.kU, h.kS⟩
def KDoneS (k r : Nat) (S U : Nat → Prop) (m : Nat) (s : GS) (w : World) (e : Ending) (w' : World) : Prop := e = .returned (.tuple #[]) ∧ KStepS k r S U m s w w'
set_option maxHeartbeats 2000000 in
set_option maxRecDepth 100000 in
theorem kshadeS_any (k r m : Nat) (S U : Nat → Prop) (s : GS) (vG vB : Value) (w : World) (hm : KMem w k r U m s S vG vB) (hp : s.ph = 1) (x : Nat) (hx : x < 18446744073709551616) :
    Calls Tryz.prog 69 #[.pointer (some ⟨k, 0, none⟩), .int .u64 (x : Int)] w (KDoneS k r S U m (s.shade x) w) := by
  obtain ⟨i0, hi0, hz0, hz1, hz2⟩ := info_parts infoInt
  have HW := Lib.hid (kwhite_any k r m U s w ⟨S, vG, vB, hm⟩ (reachW s.L x : Nat))
  have HST := Lib.hid (KStepS.stay hm)
  have hhd := hm.head
  obtain ⟨c0, c1, c2, c3, c4, hfz, hkl⟩ := hhd
  have HR := Lib.hid (reaches_any r S m s.L x w hm.heap hm.inv.lies (lies_len hm.inv.lies hm.few) hx)
  have HM := Lib.hid hm
  clear hm
  by_cases h0 : reachW s.L x = 0
  · have HG : Hid (KStepS k r S U m (s.shade x) w w) := Lib.hid (by
      have hn : ¬ s.White (addrW x) := fun hw => by
        have := isIn_range HM.out.inv.lies hw.1
        unfold reachW at h0
        rw [if_pos hw.1] at h0
        omega
      unfold GS.shade
      rw [if_neg hn]
      exact HST.out)
    rw [h0] at HR
    clear h0 HW
    go_enter Tryz.func69, Tryz.ntmps69
    go_wp2_with fail
    refine HR.out.mono ?_
    rintro e w' ⟨rfl, rfl⟩
    go_wp2_with fail
    go_end0
    exact ⟨rfl, HG.out⟩
  · have hra : reachW s.L x = addrW x ∧ IsIn s.L (addrW x) := by
      unfold reachW at h0 ⊢
      split at h0
      · rename_i hin
        rw [if_pos hin]
        exact ⟨rfl, hin⟩
      · exact absurd rfl h0
    rw [hra.1] at HR HW h0
    rw [Int.toNat_natCast] at HW
    have g0 : decide ((0 : Int) < ((addrW x : Nat) : Int)) = true := decide_eq_true (by omega)
    have g0' : decide (0 < addrW x) = true := decide_eq_true (by omega)
    by_cases hw : s.White (addrW x)
    · rw [decide_eq_true ⟨by omega, hw⟩] at HW
      have HV : Hid (s.shade x = ⟨s.L, s.ph, s.G ++ [addrW x], s.B, s.pos⟩) := Lib.hid (by unfold GS.shade; rw [if_pos hw])
      have HGI : Hid (GInv m ⟨s.L, s.ph, s.G ++ [addrW x], s.B, s.pos⟩) := Lib.hid (by rw [← HV.out]; exact HM.out.inv.shade hp x)
      have hlen := grey_few HM.out.inv HM.out.few
      clear hra hw h0
      generalize addrW x = a at *
      have hown : Hid ((w.alloc (.cells #[.int .i64 (a : Int)] 3)).ownsRow 0 3 1 vG s.G.length (nums .i64 s.G)) := Lib.hid (HM.out.greys.1.alloc _)
      have hsrc := Lib.hid (one_src w a)
      have hone := Lib.hid (one_cell a)
      go_enter Tryz.func69, Tryz.ntmps69
      go_wp2_with fail
      refine HR.out.mono ?_
      rintro e w' ⟨rfl, rfl⟩
      go_wp2_with fail
      refine HW.out.mono ?_
      rintro e w' ⟨rfl, rfl⟩
      go_wp2_with (at_builtin; refine wpList_append_own_at _ rfl (.tmp 22) (.tmp 24) 44 rfl 0 3 i0 _ 1 8 Tryz.underlying44 hi0 hz0 hz1 hz2 rfl (by decide) _ _ _ rfl hown.out ⟨w.heap.size, 0, none⟩ 1 1 [.int .i64 (a : Int)] rfl rfl hsrc.out hone.out (by unfold maxLen; omega) (by omega) (Nat.zero_le _) ?_)
      intro v1 w4 hown1 hgr1 hnn1 hat1
      have hfin := HM.out.grey hown1 hgr1 (by simpa using hat1) HGI.out
      have f3 : w4.frozen? ⟨k, 2, none⟩ = false := Lib.frozen_of_heap hfin.1 2
      have f4 : w4.cell? ⟨k, 2, none⟩ = some vG := by rw [Lib.cell_of_heap hfin.1]; rfl
      have HFN := Lib.hid hfin.2
      obtain ⟨f1, k1, rfl⟩ : ∃ f1 k1, v1 = .slice (some ⟨f1, 0, none⟩) (s.G.length + 1) k1 := by
        rcases hown1.2 with ⟨h, _⟩ | ⟨g', k', _, h, _⟩
        · exact (hnn1 h).elim
        · exact ⟨g', k', h⟩
      clear hown1 hgr1 hnn1 hat1 hfin hown hsrc hone c0 c1 c2 c3 c4 hfz
      go_wp2_with fail
      go_end0
      refine ⟨rfl, ?_⟩
      rw [HV.out]
      exact HFN.out
    · rw [decide_eq_false fun hx => hw hx.2] at HW
      have HG : Hid (KStepS k r S U m (s.shade x) w w) := Lib.hid (by
        unfold GS.shade
        rw [if_neg hw]
        exact HST.out)
      clear hra hw h0
      go_enter Tryz.func69, Tryz.ntmps69
      go_wp2_with fail
      refine HR.out.mono ?_
      rintro e w' ⟨rfl, rfl⟩
      go_wp2_with fail
      refine HW.out.mono ?_
      rintro e w' ⟨rfl, rfl⟩
      go_wp2_with fail
      go_end0
      exact ⟨rfl, HG.out⟩
theorem kshade_any (k r m : Nat) (U : Nat → Prop) (s : GS) (w : World) (h : KAt w k r U m s) (hp : s.ph = 1) (x : Nat) (hx : x < 18446744073709551616) :
    Calls Tryz.prog 69 #[.pointer (some ⟨k, 0, none⟩), .int .u64 (x : Int)] w (KDone k r U m (s.shade x) w) := by
  obtain ⟨S, vG, vB, hm⟩ := h
  exact (kshadeS_any k r m S U s vG vB w hm hp x hx).mono fun e w' ⟨he, hs⟩ => ⟨he, hs.out⟩
/-- A number of its own is set, and all else is as it was. -/
theorem KMem.num {w : World} {k r m : Nat} {U S : Nat → Prop} {s t : GS} {vG vB v : Value} {i : Nat} (h : KMem w k r U m s S vG vB)
    (hb : (w.setCell ⟨k, i, none⟩ v).heap[k]? = some (.cells #[.pointer (some ⟨r, 0, none⟩), .int .i64 (t.ph : Int), vG, vB, .int .i64 (t.pos : Int)] 48 (0, 0)))
    (hL : t.L = s.L) (hG : t.G = s.G) (hB : t.B = s.B) (hi : GInv m t) : KStep k r U m t w (w.setCell ⟨k, i, none⟩ v) := by
  have hsz : (w.setCell ⟨k, i, none⟩ v).heap.size = w.heap.size := by simp [World.setCell]
  have ho : ∀ b, b ≠ k → (w.setCell ⟨k, i, none⟩ v).heap[b]? = w.heap[b]? := fun b hne => heap_setCell_other w _ b _ hne
  refine ⟨⟨S, vG, vB, ?_, hb, ⟨?_, fun b hx => ?_⟩, ⟨?_, fun b hx => ?_⟩, fun b hS => .inl (h.inU b hS), .inl h.kU, h.kS, fun b hS => by rw [hsz]; exact h.sb b hS, hi, h.few⟩, (Turned.refl U w).setCell _ _ h.kU⟩
  · rw [hL]; exact h.heap.keep fun b _ hS => ho b fun he => h.kS (he ▸ hS)
  · rw [hG]; exact own_keep h.greys.1 fun b hx => ho b (h.greys.2 b hx).2.1
  · have := h.greys.2 b hx
    exact ⟨.inl this.1, this.2⟩
  · rw [hB]; exact own_keep h.blacks.1 fun b hx => ho b (h.blacks.2 b hx).2.1
  · have := h.blacks.2 b hx
    exact ⟨.inl this.1, this.2⟩
theorem KMem.phase {w : World} {k r m : Nat} {U S : Nat → Prop} {s : GS} {vG vB : Value} (h : KMem w k r U m s S vG vB) (p : Nat) (hi : GInv m ⟨s.L, p, s.G, s.B, s.pos⟩) : KStep k r U m ⟨s.L, p, s.G, s.B, s.pos⟩ w (w.setCell ⟨k, 1, none⟩ (.int .i64 (p : Int))) :=
  h.num (by rw [heap_setCell_same w k 1 _ _ _ h.block]; rfl) rfl rfl rfl hi
theorem KMem.place {w : World} {k r m : Nat} {U S : Nat → Prop} {s : GS} {vG vB : Value} (h : KMem w k r U m s S vG vB) (p : Nat) (hi : GInv m ⟨s.L, s.ph, s.G, s.B, p⟩) : KStep k r U m ⟨s.L, s.ph, s.G, s.B, p⟩ w (w.setCell ⟨k, 4, none⟩ (.int .i64 (p : Int))) :=
  h.num (by rw [heap_setCell_same w k 4 _ _ _ h.block]; rfl) rfl rfl rfl hi
theorem KAt.cell1 {w : World} {k r m : Nat} {U : Nat → Prop} {s : GS} (h : KAt w k r U m s) : w.cell? ⟨k, 1, none⟩ = some (.int .i64 (s.ph : Int)) := by
  obtain ⟨S, vG, vB, hm⟩ := h
  exact hm.head.2.1
theorem KAt.inv {w : World} {k r m : Nat} {U : Nat → Prop} {s : GS} (h : KAt w k r U m s) : GInv m s := by
  obtain ⟨S, vG, vB, hm⟩ := h
  exact hm.inv
theorem KAt.few {w : World} {k r m : Nat} {U : Nat → Prop} {s : GS} (h : KAt w k r U m s) : m ≤ 65536 := by
  obtain ⟨S, vG, vB, hm⟩ := h
  exact hm.few
def KErr (k r : Nat) (U : Nat → Prop) (m : Nat) (q : Int × GS) (w : World) (e : Ending) (w' : World) : Prop := e = .returned (.int .i64 q.1) ∧ KStep k r U m q.2 w w'
theorem kbegin_busy (k r m : Nat) (U : Nat → Prop) (s : GS) (w : World) (h : KAt w k r U m s) (hp : s.ph ≠ 0) (A : Option Addr) (n c : Nat) (xs : List Nat) :
    Calls Tryz.prog 37 #[.pointer (some ⟨k, 0, none⟩), .slice A n c] w (KErr k r U m (s.begin xs) w) := by
  have k1 := h.cell1
  have HE : Hid (KErr k r U m (s.begin xs) w (.returned (.int .i64 9)) w) := Lib.hid (by
    unfold KErr GS.begin
    rw [if_neg hp]
    exact ⟨rfl, .stay h⟩)
  have B1 : ((s.ph : Int) != 0) = true := by rw [bne_iff_ne]; omega
  clear h hp
  generalize s.ph = p at *
  go_enter Tryz.func37, Tryz.ntmps37
  go_wp2_with fail
  go_ret
  exact HE.out
set_option maxHeartbeats 1000000 in
theorem kbegin_idle (k r m : Nat) (U V : Nat → Prop) (s : GS) (w : World) (h : KAt w k r U m s) (hp : s.ph = 0) (A : Option Addr) (n c : Nat) (xs : List Nat) (hx : WordsAt w V A n xs) (hV : ∀ b, V b → ¬ U b) (hn : n ≤ 9223372036854775807) :
    Calls Tryz.prog 37 #[.pointer (some ⟨k, 0, none⟩), .slice A n c] w (KErr k r U m (s.begin xs) w) := by
  have k1 := h.cell1
  rw [hp] at k1
  have hb := h.inv.begin []
  unfold GS.begin at hb
  rw [if_pos hp] at hb
  have HV : Hid (s.begin xs = (0, (GS.mk s.L 1 s.G s.B s.pos).shades (xs.take n))) := Lib.hid (by
    unfold GS.begin
    rw [if_pos hp, List.take_of_length_le (by rw [hx.1]; omega)])
  have H0 : Hid (KStep k r U m ((GS.mk s.L 1 s.G s.B s.pos).shades (xs.take 0)) w (w.setCell ⟨k, 1, none⟩ (.int .i64 1))) := Lib.hid (by
    obtain ⟨S, vG, vB, hm⟩ := h
    exact hm.phase 1 hb)
  have f1 : w.frozen? ⟨k, 1, none⟩ = false := by
    obtain ⟨S, vG, vB, hm⟩ := h
    exact hm.head.2.2.2.2.2.1 1
  have HX := Lib.hid hx
  have hlen := hx.1
  have HLE := Lib.hid hlen
  clear h hp hb hx hlen
  go_enter Tryz.func37, Tryz.ntmps37
  go_wp2_with fail
  generalize w.setCell ⟨k, 1, none⟩ (.int .i64 1) = w1 at *
  go_loopw [5] (fun vi wr => ∃ i : Nat, i ≤ n ∧ vi = .int .i64 i ∧ Hid (KStep k r U m ((GS.mk s.L 1 s.G s.B s.pos).shades (xs.take i)) w wr)) (fun vi _ => n - (intOf vi).toNat)
  case atStart => exact ⟨0, by omega, by go_num, H0⟩
  case round =>
    obtain ⟨i, hi, rfl, HS⟩ := hrel
    clear H0
    by_cases hil : i < n
    · have g2 : decide ((i : Int) < (n : Int)) = true := by rw [decide_eq_true_iff]; omega
      have g2' : decide (i < n) = true := by rw [decide_eq_true_iff]; omega
      have hsz := HS.out.2.size
      have hx2 := HX.out.keep (w' := wr) hsz fun b hl hv => HS.out.2.block b hl (hV b hv)
      obtain ⟨b, off, rfl, hbl, _, hc⟩ := hx2.2.2 i hil
      have hxv : xs.getD i 0 < 18446744073709551616 := by
        have hil2 : i < xs.length := by rw [HLE.out]; exact hil
        rw [List.getD_eq_getElem?_getD, List.getElem?_eq_getElem hil2]
        exact hx2.2.1 _ (List.getElem_mem hil2)
      have HSH := Lib.hid (kshade_any k r m _ _ _ HS.out.1 (shades_same _ _).2.1 (xs.getD i 0) hxv)
      rw [← shades_more, ← take_snoc_get (by rw [HLE.out]; exact hil)] at HSH
      clear hx2 hxv hsz
      generalize xs.getD i 0 = x at *
      go_wp2_with fail
      refine HSH.out.mono ?_
      rintro e w2 ⟨rfl, hs2⟩
      have HS2 := Lib.hid (HS.out.then hs2)
      clear hs2
      go_wp2_with fail
      go_roundw
      case rel => exact ⟨i + 1, by omega, by go_num, HS2⟩
      case measure => simp [intOf]; omega
    · have g2 : decide ((i : Int) < (n : Int)) = false := by rw [decide_eq_false_iff_not]; omega
      have g2' : decide (i < n) = false := by rw [decide_eq_false_iff_not]; omega
      obtain rfl : i = n := by omega
      go_wp2_with fail
      go_ret
      exact ⟨ret_int (by rw [HV.out]), by rw [HV.out]; exact HS.out⟩
theorem kbegin_any (k r m : Nat) (U V : Nat → Prop) (s : GS) (w : World) (h : KAt w k r U m s) (A : Option Addr) (n c : Nat) (xs : List Nat) (hx : WordsAt w V A n xs) (hV : ∀ b, V b → ¬ U b) (hn : n ≤ 9223372036854775807) :
    Calls Tryz.prog 37 #[.pointer (some ⟨k, 0, none⟩), .slice A n c] w (KErr k r U m (s.begin xs) w) := by
  by_cases hp : s.ph = 0
  · exact kbegin_idle k r m U V s w h hp A n c xs hx hV hn
  · exact kbegin_busy k r m U s w h hp A n c xs
def KNew (r m : Nat) (S : Nat → Prop) (L : List Ob) (w : World) (e : Ending) (w' : World) : Prop := ∃ k, e = .returned (.pointer (some ⟨k, 0, none⟩)) ∧ KAt w' k r (fun b => (S b ∧ b < w.heap.size) ∨ w.heap.size ≤ b) m ⟨L, 0, [], [], 0⟩ ∧ Below w.heap.size w w'
theorem knew_any (r m : Nat) (S : Nat → Prop) (L : List Ob) (w : World) (h : RefAt w r S m L) (hl : Lies m 1 L) (hm : m ≤ 65536) :
    Calls Tryz.prog 31 #[.pointer (some ⟨r, 0, none⟩)] w (KNew r m S L w) := by
  have H := Lib.hid h
  have HL := Lib.hid hl
  clear h hl
  go_enter Tryz.func31, Tryz.ntmps31
  go_wp2_with fail
  go_ret
  have hb := (Below.refl w.heap.size w).alloc (Nat.le_refl _) (.cells #[.pointer (some ⟨r, 0, none⟩), .int .i64 0, .slice none 0 0, .slice none 0 0, .int .i64 0] 48)
  exact ⟨w.heap.size, rfl, ⟨(fun b => S b ∧ b < w.heap.size), .slice none 0 0, .slice none 0 0, H.out.bound.below hb, heap_alloc_new w _, ⟨World.ownsRow_nil _ _ _ _, fun b hx => by cases hx⟩, ⟨World.ownsRow_nil _ _ _ _, fun b hx => by cases hx⟩, fun b hS => .inl hS, .inr (Nat.le_refl _), fun hS => by omega, fun b hS => by simp; omega, GInv.new HL.out, hm⟩, hb⟩
theorem KMem.black {w w4 : World} {k r m a : Nat} {U S : Nat → Prop} {s : GS} {vG vB v1 : Value} {ob : Obj} (h : KMem w k r U m s S vG vB) (ho : w4.ownsRow 0 3 1 v1 (s.B.length + 1) (nums .i64 s.B ++ [.int .i64 (a : Int)]))
    (hg : (w.alloc ob).grownBy w4 vB.ownBlock) (hat : v1.ownBlock = vB.ownBlock ∨ v1.ownBlock = some (w.alloc ob).heap.size) (hi : GInv m ⟨s.L, s.ph, s.G, s.B ++ [a], s.pos⟩) :
    w4.heap[k]? = some (.cells #[.pointer (some ⟨r, 0, none⟩), .int .i64 (s.ph : Int), vG, vB, .int .i64 (s.pos : Int)] 48 (0, 0)) ∧ KStep k r U m ⟨s.L, s.ph, s.G, s.B ++ [a], s.pos⟩ w (w4.setCell ⟨k, 3, none⟩ v1) := by
  have hkl := lt_of_heap h.block
  have hz : w.heap.size + 1 ≤ w4.heap.size := by have := hg.size; simpa using this
  have hb4 : ∀ b, b < w.heap.size → vB.ownBlock ≠ some b → w4.heap[b]? = w.heap[b]? := fun b hl hn => by
    rw [hg.block b (by simp; omega) (fun e => hn e.symm), Below.heap_alloc w _ b hl]
  have hgk : vB.ownBlock ≠ some k := fun hx => (h.blacks.2 k hx).2.1 rfl
  have hk4 := (hb4 k hkl hgk).trans h.block
  have h1k : v1.ownBlock ≠ some k := fun hx => by
    rcases hat with hh | hh
    · exact hgk (hh.symm.trans hx)
    · rw [hh] at hx
      have := Option.some.inj hx
      simp at this
      omega
  have hb5 : ∀ b, b < w.heap.size → vB.ownBlock ≠ some b → b ≠ k → (w4.setCell ⟨k, 3, none⟩ v1).heap[b]? = w.heap[b]? := fun b hl hn hne => (heap_setCell_other w4 _ b _ hne).trans (hb4 b hl hn)
  have hsz : (w4.setCell ⟨k, 3, none⟩ v1).heap.size = w4.heap.size := by simp [World.setCell]
  have hset : ∀ b, v1.ownBlock = some b → (U b ∨ w.heap.size ≤ b) ∧ b ≠ k ∧ ¬ S b ∧ vG.ownBlock ≠ some b := fun b hb => by
    rcases hat with hh | hh
    · have := h.blacks.2 b (hh.symm.trans hb)
      exact ⟨.inl this.1, this.2⟩
    · rw [hh] at hb
      have hb := Option.some.inj hb
      simp at hb
      exact ⟨.inr (by omega), by omega, fun hS => by have := h.sb b hS; omega, fun hx => by have := (World.ownsRow.lt h.greys.1 b hx).2; omega⟩
  refine ⟨hk4, ⟨S, vG, v1, ?_, ?_, ⟨?_, fun b hb => ?_⟩, ⟨?_, hset⟩, fun b hS => .inl (h.inU b hS), .inl h.kU, h.kS, fun b hS => by rw [hsz]; have := h.sb b hS; omega, hi, h.few⟩, ?_⟩
  · exact h.heap.keep fun b hl hS => hb5 b hl (fun hx => (h.blacks.2 b hx).2.2.1 hS) (fun he => h.kS (he ▸ hS))
  · rw [heap_setCell_same w4 k 3 _ _ _ hk4]; rfl
  · exact own_keep h.greys.1 fun x hx => hb5 x (World.ownsRow.lt h.greys.1 x hx).2 (fun hy => (h.blacks.2 x hy).2.2.2 hx) (h.greys.2 x hx).2.1
  · have := h.greys.2 b hb
    exact ⟨.inl this.1, this.2⟩
  · have h2 := own_keep (w' := w4.setCell ⟨k, 3, none⟩ v1) ho (fun x hx => heap_setCell_other w4 _ x _ (fun he => h1k (hx.trans (congrArg some he))))
    rw [nums_snoc] at h2
    show World.ownsRow _ _ _ _ _ (s.B ++ [a]).length _
    rw [List.length_append]
    exact h2
  · have h1 : Turned U w (w.alloc ob) := (Turned.refl _ w).alloc _
    have h2 : Turned U w w4 := by
      refine ⟨hg.os.trans h1.os, hg.tape.trans h1.tape, hg.output.trans h1.output, Nat.le_trans h1.size hg.size, fun b hl hn => hb4 b hl fun hx => hn (h.blacks.2 b hx).1⟩
    exact h2.setCell _ _ h.kU
/-- Its heap has turned. -/
theorem KMem.heaped {w w' : World} {k r m : Nat} {U S : Nat → Prop} {s : GS} {vG vB : Value} {L' : List Ob} (h : KMem w k r U m s S vG vB) (hs : RStep r S m L' w w') (hi : GInv m ⟨L', s.ph, s.G, s.B, s.pos⟩) :
    (∃ S', KMem w' k r (fun b => U b ∨ w.heap.size ≤ b) m ⟨L', s.ph, s.G, s.B, s.pos⟩ S' vG vB) ∧ Turned U w w' := by
  have hkl := lt_of_heap h.block
  have hzz := hs.2.size
  have hno : ∀ b, ¬ S b → b < w.heap.size → ¬ ((S b ∨ w.heap.size ≤ b) ∧ b < w'.heap.size) := fun b hn hl hx => by
    rcases hx.1 with h1 | h1
    · exact hn h1
    · omega
  refine ⟨⟨fun b => (S b ∨ w.heap.size ≤ b) ∧ b < w'.heap.size, hs.1.bound, (hs.2.block k hkl h.kS).trans h.block, ⟨own_keep h.greys.1 fun x hx => hs.2.block x (World.ownsRow.lt h.greys.1 x hx).2 (h.greys.2 x hx).2.2, fun b hb => ?_⟩, ⟨own_keep h.blacks.1 fun x hx => hs.2.block x (World.ownsRow.lt h.blacks.1 x hx).2 (h.blacks.2 x hx).2.2.1, fun b hb => ?_⟩, fun b hS => hS.1.imp (h.inU b) id, .inl h.kU, hno k h.kS hkl, fun b hS => hS.2, hi, h.few⟩, hs.2.mono h.inU⟩
  · have h1 := h.greys.2 b hb
    exact ⟨.inl h1.1, h1.2.1, hno b h1.2.2 (World.ownsRow.lt h.greys.1 b hb).2⟩
  · have h1 := h.blacks.2 b hb
    exact ⟨.inl h1.1, h1.2.1, hno b h1.2.2.1 (World.ownsRow.lt h.blacks.1 b hb).2, h1.2.2.2⟩
def KTwo (k r : Nat) (U : Nat → Prop) (m : Nat) (q : Int × Int × GS) (w : World) (e : Ending) (w' : World) : Prop := e = .returned (.tuple #[.int .i64 q.1, .int .i64 q.2.1]) ∧ KStep k r U m q.2.2 w w'
theorem GInv.wider {m : Nat} {s : GS} (h : GInv m s) {L' : List Ob} (hl : Lies m 1 L') (hi : ∀ c, IsIn s.L c → IsIn L' c) : GInv m ⟨L', s.ph, s.G, s.B, s.pos⟩ :=
  ⟨hl, h.ph, fun a ha => hi a (h.gin a ha), fun a ha => hi a (h.bin a ha), h.gnd, h.bnd, h.apart, h.gnil, h.bnil, h.bpos, h.pos⟩
set_option maxHeartbeats 2000000 in
set_option maxRecDepth 100000 in
theorem kalloc_any (k r m : Nat) (U : Nat → Prop) (s : GS) (w : World) (h : KAt w k r U m s) (kd n : Int) :
    Calls Tryz.prog 35 #[.pointer (some ⟨k, 0, none⟩), .int .i64 kd, .int .i64 n] w (KTwo k r U m (s.alloc m kd n) w) := by
  obtain ⟨i0, hi0, hz0, hz1, hz2⟩ := info_parts infoInt
  have HGA := Lib.hid (h.inv.alloc kd n)
  obtain ⟨S, vG, vB, hm⟩ := h
  have hhd := hm.head
  obtain ⟨c0, c1, c2, c3, c4, hfz, hkl⟩ := hhd
  have HR := Lib.hid (ref_Alloc r S m s.L kd n w hm.heap hm.inv.lies hm.few (lies_len hm.inv.lies hm.few))
  have HM := Lib.hid hm
  have hbl : s.B.length ≤ 65536 := by have := black_few hm.inv; have := hm.few; omega
  rcases alloc_facts kd n hm.inv.lies with ⟨e, he, ha⟩ | ⟨a, kk, nn, L', ha, hq1, hq2, hq3, hq4, hl, hn, hf, hq5⟩
  · have hv : s.alloc m kd n = (0, e, s) := by unfold GS.alloc; rw [ha, if_neg he]
    rw [ha] at HR
    have HV := Lib.hid hv
    have B1 : (e != 0) = true := by rw [bne_iff_ne]; exact he
    have B2 : (e == 0) = false := by rw [beq_eq_false_iff_ne]; exact he
    clear hm ha hv he HGA
    go_enter Tryz.func35, Tryz.ntmps35
    go_wp2_with fail
    refine HR.out.mono ?_
    rintro x w1 ⟨rfl, hs⟩
    have HS : Hid (KStep k r U m s w w1) := Lib.hid (by
      obtain ⟨⟨S', h1⟩, h2⟩ := HM.out.heaped hs HM.out.inv
      exact ⟨⟨S', _, _, h1⟩, h2⟩)
    clear hs
    go_wp2_with fail
    go_ret2
    refine ⟨by rw [HV.out]; rfl, ?_⟩
    rw [HV.out]
    exact HS.out
  · have hv : s.alloc m kd n = ((a : Int), 0, s.laid L' a) := by unfold GS.alloc; rw [ha, if_pos rfl]; rfl
    clear hq1 hq2 hq3 hq4 hq5
    rw [ha] at HR
    rw [hv] at HGA
    have HV := Lib.hid hv
    have HW := Lib.hid (HM.out.inv.wider hl (fun c hc => by
      unfold IsIn at hc ⊢
      rw [hf]
      split
      · rfl
      · exact hc))
    have hph := HM.out.inv.ph
    have hcase : (s.ph = 1 ∨ (s.ph = 2 ∧ s.pos ≤ a)) ∨ ¬ (s.ph = 1 ∨ (s.ph = 2 ∧ s.pos ≤ a)) := Classical.em _
    rcases hcase with hc | hc
    · have HL : Hid (s.laid L' a = ⟨L', s.ph, s.G, s.B ++ [a], s.pos⟩) := Lib.hid (by unfold GS.laid; rw [if_pos hc])
      rw [HL.out] at HGA
      have hcc : s.ph = 1 ∨ (s.ph = 2 ∧ decide ((s.pos : Int) ≤ (a : Int)) = true ∧ decide (s.pos ≤ a) = true) := hc.imp id fun hx => ⟨hx.1, decide_eq_true (by omega), decide_eq_true hx.2⟩
      clear hm ha hv hn hf hl hc
      rcases hcc with hp | ⟨hp, g1, g1'⟩
      all_goals
        have HP := Lib.hid hp
        rw [hp] at c1
        clear hp
        go_enter Tryz.func35, Tryz.ntmps35
        go_wp2_with fail
        refine HR.out.mono ?_
        rintro x w1 ⟨rfl, hs⟩
        obtain ⟨⟨S', h1⟩, h2⟩ := HM.out.heaped hs HW.out
        have H1 := Lib.hid h1
        have H2 := Lib.hid h2
        have hhd1 := h1.head
        rw [HP.out] at hhd1
        obtain ⟨j0, j1, j2, j3, j4, jfz, jkl⟩ := hhd1
        have hown : Hid ((w1.alloc (.cells #[.int .i64 (a : Int)] 3)).ownsRow 0 3 1 vB s.B.length (nums .i64 s.B)) := Lib.hid (h1.blacks.1.alloc _)
        have hsrc := Lib.hid (one_src w1 a)
        have hone := Lib.hid (one_cell a)
        clear hs h1 h2 c0 c1 c2 c3 c4 hfz hkl
        go_wp2_with (at_builtin; refine wpList_append_own_at _ rfl (.tmp 47) (.tmp 49) 44 rfl 0 3 i0 _ 1 8 Tryz.underlying44 hi0 hz0 hz1 hz2 rfl (by decide) _ _ _ rfl hown.out ⟨w1.heap.size, 0, none⟩ 1 1 [.int .i64 (a : Int)] rfl rfl hsrc.out hone.out (by unfold maxLen; omega) (by omega) (Nat.zero_le _) ?_)
        intro v1 w4 hown1 hgr1 hnn1 hat1
        have hfin := H1.out.black hown1 hgr1 (by simpa using hat1) HGA.out
        have f3 : w4.frozen? ⟨k, 3, none⟩ = false := Lib.frozen_of_heap hfin.1 3
        have f4 : w4.cell? ⟨k, 3, none⟩ = some vB := by rw [Lib.cell_of_heap hfin.1]; rfl
        have HFN : Hid (KStep k r U m ⟨L', s.ph, s.G, s.B ++ [a], s.pos⟩ w (w4.setCell ⟨k, 3, none⟩ v1)) := Lib.hid (KStep.then (s := ⟨L', s.ph, s.G, s.B, s.pos⟩) ⟨⟨S', vG, vB, H1.out⟩, H2.out⟩ hfin.2)
        obtain ⟨f1, k1, rfl⟩ : ∃ f1 k1, v1 = .slice (some ⟨f1, 0, none⟩) (s.B.length + 1) k1 := by
          rcases hown1.2 with ⟨h, _⟩ | ⟨g', k', _, h, _⟩
          · exact (hnn1 h).elim
          · exact ⟨g', k', h⟩
        clear hown1 hgr1 hnn1 hat1 hfin hown hsrc hone j0 j1 j2 j3 j4 jfz
        go_wp2_with fail
        go_ret2
        refine ⟨by rw [HV.out]; rfl, ?_⟩
        rw [HV.out]
        show KStep k r U m (s.laid L' a) w _
        rw [HL.out]
        exact HFN.out
    · have HL : Hid (s.laid L' a = ⟨L', s.ph, s.G, s.B, s.pos⟩) := Lib.hid (by unfold GS.laid; rw [if_neg hc])
      have hcc : s.ph = 0 ∨ (s.ph = 2 ∧ decide ((s.pos : Int) ≤ (a : Int)) = false ∧ decide (s.pos ≤ a) = false) := by
        by_cases h2 : s.ph = 2
        · have h3 : ¬ s.pos ≤ a := fun hx => hc (.inr ⟨h2, hx⟩)
          exact .inr ⟨h2, decide_eq_false (by omega), decide_eq_false h3⟩
        · have h3 : s.ph ≠ 1 := fun hx => hc (.inl hx)
          exact .inl (by omega)
      clear hm ha hv hn hf hl hc HGA
      rcases hcc with hp | ⟨hp, g1, g1'⟩
      all_goals
        have HP := Lib.hid hp
        rw [hp] at c1
        clear hp
        go_enter Tryz.func35, Tryz.ntmps35
        go_wp2_with fail
        refine HR.out.mono ?_
        rintro x w1 ⟨rfl, hs⟩
        obtain ⟨⟨S', h1⟩, h2⟩ := HM.out.heaped hs HW.out
        have HFN : Hid (KStep k r U m ⟨L', s.ph, s.G, s.B, s.pos⟩ w w1) := Lib.hid ⟨⟨S', vG, vB, h1⟩, h2⟩
        have hhd1 := h1.head
        rw [HP.out] at hhd1
        obtain ⟨j0, j1, j2, j3, j4, jfz, jkl⟩ := hhd1
        clear hs h1 h2 c0 c1 c2 c3 c4 hfz hkl
        go_wp2_with fail
        go_ret2
        refine ⟨by rw [HV.out]; rfl, ?_⟩
        rw [HV.out]
        show KStep k r U m (s.laid L' a) w _
        rw [HL.out]
        exact HFN.out
def KOne (k r : Nat) (U : Nat → Prop) (m : Nat) (q : Bool × GS) (w : World) (e : Ending) (w' : World) : Prop := e = .returned (.bool q.1) ∧ KStep k r U m q.2 w w'
def Vals (L : List Ob) : Prop := ∀ o ∈ L, ∀ x ∈ o.fs, x < 18446744073709551616
theorem drop_sub {L : List Ob} {a : Nat} {o : Ob} (h : o ∈ dropOb L a) : o ∈ L := by
  induction L with
  | nil => exact h
  | cons x L ih =>
    unfold dropOb at h
    split at h
    · exact List.mem_cons_of_mem _ h
    · rcases List.mem_cons.1 h with rfl | h
      · exact List.mem_cons_self
      · exact List.mem_cons_of_mem _ (ih h)
theorem step_sub {s : GS} {o : Ob} (h : o ∈ s.step.2.L) : o ∈ s.L := by
  unfold GS.step at h
  split at h
  · split at h
    · exact h
    · rwa [show (s.blacken (least s.G)).L = s.L from (shades_same _ _).1] at h
  · split at h
    · split at h
      · exact h
      · have h : o ∈ (if s.White (nextOb s.L s.pos) then dropOb s.L (nextOb s.L s.pos) else s.L) := h
        split at h
        · exact drop_sub h
        · exact h
    · exact h
theorem run_sub {s : GS} {K : Nat} {o : Ob} (h : o ∈ (s.run K).L) : o ∈ s.L := by
  induction K with
  | zero => exact h
  | succ K ih => exact ih (step_sub h)
def StepDoes (k r m : Nat) : Prop := ∀ (U : Nat → Prop) (s : GS) (w : World), KAt w k r U m s → Vals s.L → Calls Tryz.prog 47 #[.pointer (some ⟨k, 0, none⟩)] w (KOne k r U m s.step w)
def KFin (k r : Nat) (U : Nat → Prop) (m : Nat) (s : GS) (w : World) (e : Ending) (w' : World) : Prop := ∃ K : Nat, e = .returned (.int .i64 (K : Int)) ∧ EndsAt s K ∧ KStep k r U m (s.run K) w w'
theorem kfinish_of (k r m : Nat) (hst : StepDoes k r m) (U : Nat → Prop) (s : GS) (w : World) (h : KAt w k r U m s) (hv : Vals s.L) :
    Calls Tryz.prog 38 #[.pointer (some ⟨k, 0, none⟩)] w (KFin k r U m s w) := by
  have HI := Lib.hid h.inv
  have H0 : Hid (KStep k r U m (s.run 0) w w) := Lib.hid (.stay h)
  have HD := Lib.hid hst
  have HVL := Lib.hid hv
  have hw := h.few
  clear h hst hv
  go_enter Tryz.func38, Tryz.ntmps38
  go_wp2_with fail
  go_loopw [3] (fun vn wr => ∃ K : Nat, K ≤ 2 * m + 1 ∧ vn = .int .i64 K ∧ Hid (∀ j, j < K → (s.run j).ph ≠ 0) ∧ Hid (KStep k r U m (s.run K) w wr)) (fun vn _ => 2 * m + 2 - (intOf vn).toNat)
  case atStart => exact ⟨0, by omega, by go_num, Lib.hid (fun j hj => by omega), H0⟩
  case round =>
    obtain ⟨K, hK, rfl, HN, HS⟩ := hrel
    clear H0
    have k1 := HS.out.1.cell1
    by_cases h0 : (s.run K).ph = 0
    · have HE : Hid (EndsAt s K) := Lib.hid ⟨h0, HN.out⟩
      rw [h0] at k1
      clear h0
      go_wp2_with fail
      go_ret
      exact ⟨K, rfl, HE.out, HS.out⟩
    · have HN1 : Hid (∀ j, j < K + 1 → (s.run j).ph ≠ 0) := Lib.hid (fun j hj => by
        by_cases hjk : j = K
        · subst hjk; exact h0
        · exact HN.out j (by omega))
      have hK1 := not_left HI.out (K + 1) HN1.out
      have B1 : (((s.run K).ph : Int) != 0) = true := by rw [bne_iff_ne]; omega
      have HST := Lib.hid (HD.out _ _ _ HS.out.1 (fun o ho => HVL.out o (run_sub ho)))
      clear h0
      generalize (s.run K).ph = p at *
      go_wp2_with fail
      refine HST.out.mono ?_
      rintro e w2 ⟨rfl, hs2⟩
      have HS2 : Hid (KStep k r U m (s.run (K + 1)) w w2) := Lib.hid (HS.out.then hs2)
      clear hs2
      go_wp2_with fail
      go_roundw
      case rel => exact ⟨K + 1, hK1, by go_num, HN1, HS2⟩
      case measure => simp [intOf]; omega
theorem KMem.greyed {w w4 : World} {k r m : Nat} {U S : Nat → Prop} {s : GS} {vG vB v1 : Value} {l : List Nat} (h : KMem w k r U m s S vG vB) (hg : Grows w.heap.size w w4 v1 l) (hi : GInv m ⟨s.L, s.ph, l, s.B, s.pos⟩) :
    w4.heap[k]? = some (.cells #[.pointer (some ⟨r, 0, none⟩), .int .i64 (s.ph : Int), vG, vB, .int .i64 (s.pos : Int)] 48 (0, 0)) ∧ KStep k r U m ⟨s.L, s.ph, l, s.B, s.pos⟩ w (w4.setCell ⟨k, 2, none⟩ v1) := by
  have hkl := lt_of_heap h.block
  have hk4 := (hg.2.1.block k hkl).trans h.block
  have h1k : v1.ownBlock ≠ some k := fun hx => by
    have h1 : w.heap.size ≤ k := hg.1.2 k hx
    omega
  have hb5 : ∀ b, b < w.heap.size → b ≠ k → (w4.setCell ⟨k, 2, none⟩ v1).heap[b]? = w.heap[b]? := fun b hl hne => (heap_setCell_other w4 _ b _ hne).trans (hg.2.1.block b hl)
  have hsz : (w4.setCell ⟨k, 2, none⟩ v1).heap.size = w4.heap.size := by simp [World.setCell]
  refine ⟨hk4, ⟨S, v1, vB, ?_, ?_, ⟨?_, fun b hb => ?_⟩, ⟨?_, fun b hb => ?_⟩, fun b hS => .inl (h.inU b hS), .inl h.kU, h.kS, fun b hS => by rw [hsz]; have := h.sb b hS; have := hg.2.2; omega, hi, h.few⟩, ?_⟩
  · exact h.heap.keep fun b hl hS => hb5 b hl (fun he => h.kS (he ▸ hS))
  · rw [heap_setCell_same w4 k 2 _ _ _ hk4]; rfl
  · exact own_keep hg.1.1 fun x hx => heap_setCell_other w4 _ x _ (fun he => h1k (hx.trans (congrArg some he)))
  · have h1 := hg.1.2 b hb
    have h1 : w.heap.size ≤ b := h1
    exact ⟨.inr h1, by omega, fun hS => by have := h.sb b hS; omega⟩
  · exact own_keep h.blacks.1 fun x hx => hb5 x (World.ownsRow.lt h.blacks.1 x hx).2 (h.blacks.2 x hx).2.1
  · have h2 := h.blacks.2 b hb
    refine ⟨.inl h2.1, h2.2.1, h2.2.2.1, fun hx => ?_⟩
    have h1 : w.heap.size ≤ b := hg.1.2 b hx
    have := (World.ownsRow.lt h.blacks.1 b hb).2
    omega
  · exact (Turned.of_below hg.2.1 : Turned U w w4).setCell _ _ h.kU
theorem KMem.blacked {w w4 : World} {k r m : Nat} {U S : Nat → Prop} {s : GS} {vG vB v1 : Value} {l : List Nat} (h : KMem w k r U m s S vG vB) (hg : Grows w.heap.size w w4 v1 l) (hi : GInv m ⟨s.L, s.ph, s.G, l, s.pos⟩) :
    w4.heap[k]? = some (.cells #[.pointer (some ⟨r, 0, none⟩), .int .i64 (s.ph : Int), vG, vB, .int .i64 (s.pos : Int)] 48 (0, 0)) ∧ KStep k r U m ⟨s.L, s.ph, s.G, l, s.pos⟩ w (w4.setCell ⟨k, 3, none⟩ v1) := by
  have hkl := lt_of_heap h.block
  have hk4 := (hg.2.1.block k hkl).trans h.block
  have h1k : v1.ownBlock ≠ some k := fun hx => by
    have h1 : w.heap.size ≤ k := hg.1.2 k hx
    omega
  have hb5 : ∀ b, b < w.heap.size → b ≠ k → (w4.setCell ⟨k, 3, none⟩ v1).heap[b]? = w.heap[b]? := fun b hl hne => (heap_setCell_other w4 _ b _ hne).trans (hg.2.1.block b hl)
  have hsz : (w4.setCell ⟨k, 3, none⟩ v1).heap.size = w4.heap.size := by simp [World.setCell]
  refine ⟨hk4, ⟨S, vG, v1, ?_, ?_, ⟨?_, fun b hb => ?_⟩, ⟨?_, fun b hb => ?_⟩, fun b hS => .inl (h.inU b hS), .inl h.kU, h.kS, fun b hS => by rw [hsz]; have := h.sb b hS; have := hg.2.2; omega, hi, h.few⟩, ?_⟩
  · exact h.heap.keep fun b hl hS => hb5 b hl (fun he => h.kS (he ▸ hS))
  · rw [heap_setCell_same w4 k 3 _ _ _ hk4]; rfl
  · exact own_keep h.greys.1 fun x hx => hb5 x (World.ownsRow.lt h.greys.1 x hx).2 (h.greys.2 x hx).2.1
  · have := h.greys.2 b hb
    exact ⟨.inl this.1, this.2⟩
  · exact own_keep hg.1.1 fun x hx => heap_setCell_other w4 _ x _ (fun he => h1k (hx.trans (congrArg some he)))
  · have h1 : w.heap.size ≤ b := hg.1.2 b hb
    exact ⟨.inr h1, by omega, fun hS => by have := h.sb b hS; omega, fun hx => by have := (World.ownsRow.lt h.greys.1 b hx).2; omega⟩
  · exact (Turned.of_below hg.2.1 : Turned U w w4).setCell _ _ h.kU
theorem hGet_ok {L : List Ob} {a i : Int} (h : (hGet L a i).2 = 0) : ∃ (n : Nat) (o : Ob), a = (n : Int) ∧ findOb L n = some o := by
  unfold hGet at h
  split at h
  · cases h
  · rename_i h0
    cases hf : findOb L a.toNat with
    | none => rw [hf] at h; cases h
    | some o => exact ⟨a.toNat, o, by omega, hf⟩
theorem find_place {L : List Ob} {n : Nat} {o : Ob} (h : findOb L n = some o) : ∃ j : Nat, L[j]? = some o ∧ o.at_ = n := by
  obtain ⟨hm, ha⟩ := find_mem h
  obtain ⟨j, hj, he⟩ := List.getElem_of_mem hm
  exact ⟨j, by rw [List.getElem?_eq_getElem hj, he], ha⟩
theorem KMem.below {w w' : World} {k r m : Nat} {U S : Nat → Prop} {s : GS} {vG vB : Value} (h : KMem w k r U m s S vG vB) (hb : Below w.heap.size w w') : KMem w' k r U m s S vG vB :=
  ⟨h.heap.below hb, (hb.block k (lt_of_heap h.block)).trans h.block, ⟨own_keep h.greys.1 fun x hx => hb.block x (World.ownsRow.lt h.greys.1 x hx).2, h.greys.2⟩, ⟨own_keep h.blacks.1 fun x hx => hb.block x (World.ownsRow.lt h.blacks.1 x hx).2, h.blacks.2⟩, h.inU, h.kU, h.kS, fun b hS => Nat.lt_of_lt_of_le (h.sb b hS) hb.size, h.inv, h.few⟩
theorem KAt.below {w w' : World} {k r m : Nat} {U : Nat → Prop} {s : GS} (h : KAt w k r U m s) (hb : Below w.heap.size w w') : KAt w' k r U m s := by
  obtain ⟨S, vG, vB, hm⟩ := h
  exact ⟨S, vG, vB, hm.below hb⟩
theorem KStep.quiet {w w' : World} {k r m : Nat} {U : Nat → Prop} {s : GS} (h : KAt w k r U m s) (hb : Below w.heap.size w w') : KStep k r U m s w w' := ⟨(h.below hb).mono fun _ hU => .inl hU, Turned.of_below hb⟩
/-- Setting a field, behind the barrier. -/
theorem kset_low (k r m : Nat) (U : Nat → Prop) (s t : GS) (w : World) (h : KAt w k r U m t) (hL : t.L = s.L) (a i : Int) (x : Nat) (he : (hGet s.L a i).2 = 0) :
    Calls Tryz.prog 72 #[.pointer (some ⟨r, 0, none⟩), .int .i64 a, .int .i64 i, .int .u64 (x : Int)] w (KErr k r U m (0, t.put (hSet s.L a i x).2) w) := by
  obtain ⟨S, vG, vB, hm⟩ := h
  have hs := hSet_facts hm.inv.lies a i x
  refine (ref_Set r S m t.L a i x w hm.heap hm.inv.lies (lies_len hm.inv.lies hm.few) (lies_fields hm.inv.lies hm.few)).mono ?_
  rintro e w' ⟨he', hst⟩
  rw [hL] at hst he' hs
  rw [hSet_ok he] at he'
  have hi : GInv m (t.put (hSet s.L a i x).2) := hm.inv.put hs.1 (by rw [hL]; exact hs.2)
  obtain ⟨⟨S', j1⟩, j2⟩ := hm.heaped hst hi
  exact ⟨he', ⟨S', vG, vB, j1⟩, j2⟩
theorem KAt.head {w : World} {k r m : Nat} {U : Nat → Prop} {s : GS} (h : KAt w k r U m s) : w.cell? ⟨k, 0, none⟩ = some (.pointer (some ⟨r, 0, none⟩)) := by
  obtain ⟨S, vG, vB, hm⟩ := h
  exact hm.head.1
theorem KAt.heapAt {w : World} {k r m : Nat} {U : Nat → Prop} {s : GS} (h : KAt w k r U m s) : ∃ S, RefAt w r S m s.L := by
  obtain ⟨S, vG, vB, hm⟩ := h
  exact ⟨S, hm.heap⟩
theorem find_quiet (r m : Nat) (S : Nat → Prop) (L : List Ob) (w : World) (h : RefAt w r S m L) (hl : Lies m 1 L) (hn : L.length ≤ 65536) {k : Nat} {o : Ob} (hk : L[k]? = some o) (n : Nat) :
    Calls Tryz.prog 21 #[.pointer (some ⟨r, 0, none⟩), .int .i64 (o.at_ : Int)] (w.drewN n) fun e w' => e = .returned (.int .i64 (k : Int)) ∧ w' = w.drewN n :=
  (find_same r S m L (w.drewN n) (h.below (below_draws (Below.refl _ _) n)) hl hn hk).mono fun _ _ ⟨he, hw⟩ => ⟨he, hw.symm⟩
set_option maxHeartbeats 2000000 in
set_option maxRecDepth 100000 in
theorem kwrite_any (k r m : Nat) (U : Nat → Prop) (s : GS) (w : World) (h : KAt w k r U m s) (a i : Int) (x : Nat) (hv : Vals s.L) :
    Calls Tryz.prog 41 #[.pointer (some ⟨k, 0, none⟩), .int .i64 a, .int .i64 i, .int .u64 (x : Int)] w (KErr k r U m (s.write a i x) w) := by
  have k0 := h.head
  have k1 := h.cell1
  have hl := h.inv.lies
  have hm := h.few
  have hlen := lies_len hl hm
  obtain ⟨S, hr⟩ := h.heapAt
  have HGT := Lib.hid (ref_Get r S m s.L a i w hr hl hlen (lies_fields hl hm))
  have HK := Lib.hid h
  have HDR : Hid (∀ n, KStep k r U m s w (w.drewN n)) := Lib.hid (fun n => KStep.quiet h (below_draws (Below.refl _ _) n))
  by_cases he : (hGet s.L a i).2 = 0
  · have hwr : s.write a i x = (0, (s.barrier a (hGet s.L a i).1).put (hSet s.L a i x).2) := by unfold GS.write; rw [if_pos he]
    have HSET := Lib.hid (fun (t : GS) (w1 : World) (U1 : Nat → Prop) (h1 : KAt w1 k r U1 m t) (hL : t.L = s.L) => kset_low k r m U1 s t w1 h1 hL a i x he)
    obtain ⟨n, o, rfl, hf⟩ := hGet_ok he
    have hsm : (hGet s.L (n : Int) i).1 < 18446744073709551616 := by
      rw [hGet_at i hf]
      split
      · decide
      · rename_i h2
        have hi : i.toNat < o.fs.length := by omega
        show o.fs.getD i.toNat 0 < _
        rw [List.getD_eq_getElem?_getD, List.getElem?_eq_getElem hi]
        exact hv o (find_mem hf).1 _ (List.getElem_mem hi)
    have hkd := hKind_at hf
    obtain ⟨j, hj, hjn⟩ := find_place hf
    subst hjn
    have hjl : j < s.L.length := (List.getElem?_eq_some_iff.1 hj).1
    rw [he] at HGT
    by_cases hp : s.ph = 1
    · obtain ⟨A, c, c0, c1, hs⟩ := hr.seen
      obtain ⟨g, rfl, hg, _, d1, _⟩ := hs j o hj
      have HFD := Lib.hid (find_quiet r m S s.L w hr hl hlen hj)
      have HSH : Hid (∀ w1 U1, KAt w1 k r U1 m s → Calls Tryz.prog 69 #[.pointer (some ⟨k, 0, none⟩), .int .u64 ((hGet s.L (o.at_ : Int) i).1 : Int)] w1 (KDone k r U1 m (s.shade (hGet s.L (o.at_ : Int) i).1) w1)) := Lib.hid (fun w1 U1 h1 => kshade_any k r m U1 s w1 h1 hp _ hsm)
      have HSL := Lib.hid (shade_same s (hGet s.L (o.at_ : Int) i).1).1
      rw [hp] at k1
      have g1 : (0 : Int) ≤ (j : Int) := by omega
      have g2 : (j : Int) < (s.L.length : Int) := by omega
      by_cases hk : o.kind = 1
      · have HV : Hid (s.write (o.at_ : Int) i x = (0, s.put (hSet s.L (o.at_ : Int) i x).2)) := Lib.hid (by
          rw [hwr]
          unfold GS.barrier
          rw [if_neg (by rw [hkd]; intro hx; exact hx.2 hk)])
        have B1 : ((o.kind : Int) != 1) = false := by rw [hk]; rfl
        clear h hl hr hf he hj hs hwr hv hkd hk hp hsm c0 hm hlen HSH HSL
        generalize (hGet s.L (o.at_ : Int) i).1 = y at *
        generalize s.L.length = len at *
        go_enter Tryz.func41, Tryz.ntmps41
        go_wp2_with fail
        refine HGT.out.mono ?_
        rintro e w' ⟨rfl, rfl⟩
        go_wp2_with fail
        go_quiet ((go_at_call 21; exact Calls.quiet_of_same (HFD.out _)))
        go_wp2_with fail
        generalize hwq : w.drewN _ = wq at *
        have HSQ : Hid (KStep k r U m s w wq) := Lib.hid (by rw [← hwq]; exact HDR.out _)
        clear hwq
        refine (HSET.out s wq _ HSQ.out.1 rfl).mono ?_
        rintro e w3 ⟨rfl, hs3⟩
        have HS3 := Lib.hid (HSQ.out.then hs3)
        clear hs3
        go_wp2_with fail
        go_ret
        exact ⟨ret_int (by rw [HV.out]), by rw [HV.out]; exact HS3.out⟩
      · have HV : Hid (s.write (o.at_ : Int) i x = (0, (s.shade (hGet s.L (o.at_ : Int) i).1).put (hSet s.L (o.at_ : Int) i x).2)) := Lib.hid (by
          rw [hwr]
          unfold GS.barrier
          rw [if_pos ⟨hp, by rw [hkd]; exact hk⟩])
        have B1 : ((o.kind : Int) != 1) = true := by rw [bne_iff_ne]; omega
        clear h hl hr hf he hj hs hwr hv hkd hk hp hsm c0 hm hlen
        generalize (hGet s.L (o.at_ : Int) i).1 = y at *
        generalize s.L.length = len at *
        go_enter Tryz.func41, Tryz.ntmps41
        go_wp2_with fail
        refine HGT.out.mono ?_
        rintro e w' ⟨rfl, rfl⟩
        go_wp2_with fail
        go_quiet ((go_at_call 21; exact Calls.quiet_of_same (HFD.out _)))
        go_wp2_with fail
        generalize hwq : w.drewN _ = wq at *
        have HSQ : Hid (KStep k r U m s w wq) := Lib.hid (by rw [← hwq]; exact HDR.out _)
        clear hwq
        refine (HSH.out wq _ HSQ.out.1).mono ?_
        rintro e w2 ⟨rfl, hs2⟩
        have HS2 := Lib.hid (HSQ.out.then hs2)
        have j0 := hs2.1.head
        clear hs2
        go_wp2_with fail
        refine (HSET.out _ w2 _ HS2.out.1 HSL.out).mono ?_
        rintro e w3 ⟨rfl, hs3⟩
        have HS3 := Lib.hid (HS2.out.then hs3)
        clear hs3
        go_wp2_with fail
        go_ret
        exact ⟨ret_int (by rw [HV.out]), by rw [HV.out]; exact HS3.out⟩
    · have HV : Hid (s.write (o.at_ : Int) i x = (0, s.put (hSet s.L (o.at_ : Int) i x).2)) := Lib.hid (by
        rw [hwr]
        unfold GS.barrier
        rw [if_neg (fun hx => hp hx.1)])
      have B1 : ((s.ph : Int) == 1) = false := by rw [beq_eq_false_iff_ne]; omega
      have HSET2 := Lib.hid (fun w1 U1 (h1 : KAt w1 k r U1 m s) => HSET.out s w1 U1 h1 rfl)
      clear h hl hr hf he hj hwr hv hkd hp hsm hm hlen HSET
      generalize (hGet s.L (o.at_ : Int) i).1 = y at *
      generalize s.ph = p at *
      go_enter Tryz.func41, Tryz.ntmps41
      go_wp2_with fail
      refine HGT.out.mono ?_
      rintro e w' ⟨rfl, rfl⟩
      go_wp2_with fail
      go_quiet (fail)
      go_wp2_with fail
      generalize hwq : w.drewN _ = wq at *
      have HSQ : Hid (KStep k r U m s w wq) := Lib.hid (by rw [← hwq]; exact HDR.out _)
      clear hwq
      refine (HSET2.out wq _ HSQ.out.1).mono ?_
      rintro e w3 ⟨rfl, hs3⟩
      have HS3 := Lib.hid (HSQ.out.then hs3)
      clear hs3
      go_wp2_with fail
      go_ret
      exact ⟨ret_int (by rw [HV.out]), by rw [HV.out]; exact HS3.out⟩
  · have HV : Hid (s.write a i x = ((hGet s.L a i).2, s)) := Lib.hid (by unfold GS.write; rw [if_neg he])
    have B1 : ((hGet s.L a i).2 != 0) = true := by rw [bne_iff_ne]; exact he
    have HG := Lib.hid (KStep.stay h)
    clear h he hl hr hv hm hlen
    generalize hGet s.L a i = q at *
    obtain ⟨y, er⟩ := q
    simp only at *
    go_enter Tryz.func41, Tryz.ntmps41
    go_wp2_with fail
    refine HGT.out.mono ?_
    rintro e w' ⟨rfl, rfl⟩
    go_wp2_with fail
    go_ret
    exact ⟨ret_int (by rw [HV.out]), by rw [HV.out]; exact HG.out⟩
theorem leastFrom_snoc (a x : Nat) (l : List Nat) : leastFrom a (l ++ [x]) = if x < leastFrom a l then x else leastFrom a l := by
  induction l generalizing a with
  | nil => rfl
  | cons b l ih => simp only [List.cons_append, leastFrom]; exact ih _
def leastTo (l : List Nat) (i : Nat) : Nat := leastFrom (l.headD 0) (l.take i)
theorem leastTo_zero {l : List Nat} : leastTo l 0 = l.getD 0 0 := by
  unfold leastTo
  cases l with
  | nil => rfl
  | cons a l => rfl
theorem leastTo_more {l : List Nat} {i : Nat} (h : i < l.length) : leastTo l (i + 1) = if l.getD i 0 < leastTo l i then l.getD i 0 else leastTo l i := by
  unfold leastTo
  rw [take_snoc_get h, leastFrom_snoc]
theorem leastTo_all (l : List Nat) : leastTo l l.length = least l := by
  unfold leastTo least
  rw [List.take_length]
theorem KMem.bounded {w : World} {k r m : Nat} {U S : Nat → Prop} {s : GS} {vG vB : Value} (h : KMem w k r U m s S vG vB) : KMem w k r (fun b => U b ∧ b < w.heap.size) m s S vG vB :=
  ⟨h.heap, h.block, ⟨h.greys.1, fun b hb => ⟨⟨(h.greys.2 b hb).1, (World.ownsRow.lt h.greys.1 b hb).2⟩, (h.greys.2 b hb).2⟩⟩, ⟨h.blacks.1, fun b hb => ⟨⟨(h.blacks.2 b hb).1, (World.ownsRow.lt h.blacks.1 b hb).2⟩, (h.blacks.2 b hb).2⟩⟩, fun b hS => ⟨h.inU b hS, h.sb b hS⟩, ⟨h.kU, lt_of_heap h.block⟩, h.kS, h.sb, h.inv, h.few⟩
theorem GInv.lessG {m : Nat} {s : GS} (h : GInv m s) (a : Nat) : GInv m ⟨s.L, s.ph, without s.G a, s.B, s.pos⟩ :=
  ⟨h.lies, h.ph, fun b hb => h.gin b (mem_without.1 hb).1, h.bin, List.Pairwise.filter _ h.gnd, h.bnd, fun b hb => h.apart b (mem_without.1 hb).1, fun hn => by show without s.G a = []; rw [h.gnil hn]; rfl, h.bnil, h.bpos, h.pos⟩
theorem GInv.lessB {m : Nat} {s : GS} (h : GInv m s) (a : Nat) : GInv m ⟨s.L, s.ph, s.G, without s.B a, s.pos⟩ :=
  ⟨h.lies, h.ph, h.gin, fun b hb => h.bin b (mem_without.1 hb).1, h.gnd, List.Pairwise.filter _ h.bnd, fun b hb hx => h.apart b hb (mem_without.1 hx).1, h.gnil, fun hn => by show without s.B a = []; rw [h.bnil hn]; rfl, fun hn b hb => h.bpos hn b (mem_without.1 hb).1, h.pos⟩
theorem GInv.dropped {m : Nat} {s : GS} (h : GInv m s) {a : Nat} (hw : s.White a) : GInv m ⟨dropOb s.L a, s.ph, s.G, s.B, s.pos⟩ := by
  obtain ⟨d1, d2⟩ := drop_facts h.lies hw.1
  refine ⟨d1, h.ph, fun b hb => ?_, fun b hb => ?_, h.gnd, h.bnd, h.apart, h.gnil, h.bnil, h.bpos, h.pos⟩
  · show IsIn (dropOb s.L a) b
    unfold IsIn
    rw [d2, if_neg (fun hx => hw.2.1 (by rw [← hx]; exact hb))]
    exact h.gin b hb
  · show IsIn (dropOb s.L a) b
    unfold IsIn
    rw [d2, if_neg (fun hx => hw.2.2 (by rw [← hx]; exact hb))]
    exact h.bin b hb
/-- An object's cells, its fields' block among the heap's. -/
theorem RefAt.fields {w : World} {r : Nat} {S : Nat → Prop} {m : Nat} {L : List Ob} (h : RefAt w r S m L) {i : Nat} {o : Ob} (ho : L[i]? = some o) :
    ∃ g c F cf, w.cell? ⟨r, 1, none⟩ = some (.slice (some ⟨g, 0, none⟩) L.length c) ∧ g < w.heap.size ∧ w.cell? ⟨g, i * 3, none⟩ = some (.int .i64 (o.at_ : Int)) ∧ w.cell? ⟨g, i * 3 + 1, none⟩ = some (.int .i64 (o.kind : Int)) ∧ w.cell? ⟨g, i * 3 + 2, none⟩ = some (.slice F o.fs.length cf) ∧
      ∀ (j x : Nat), o.fs[j]? = some x → ∃ f, F = some ⟨f, 0, none⟩ ∧ f < w.heap.size ∧ S f ∧ w.cell? ⟨f, j, none⟩ = some (.int .u64 (x : Int)) := by
  obtain ⟨_, v, P, rfl, h2, h3, h4⟩ := h
  obtain ⟨A, c, rfl, h5⟩ := h3.view
  obtain ⟨p, hp, rfl⟩ : ∃ p, P[i]? = some p ∧ p.1 = o := by
    rw [List.getElem?_map] at ho
    cases hp : P[i]? with
    | none => rw [hp] at ho; cases ho
    | some p => rw [hp] at ho; exact ⟨p, rfl, Option.some.inj ho⟩
  obtain ⟨k1, k2, k3⟩ := obCells_at hp
  obtain ⟨F, cf, hv, h6⟩ := (h4 p (List.mem_of_getElem? hp)).view
  obtain ⟨g, rfl, hg, _, c1⟩ := h5 _ _ k1
  obtain ⟨g2, e2, _, _, c2⟩ := h5 _ _ k2
  obtain ⟨g3, e3, _, _, c3⟩ := h5 _ _ k3
  obtain rfl : g = g2 := by simpa using e2
  obtain rfl : g = g3 := by simpa using e3
  rw [hv] at c3
  refine ⟨g, c, F, cf, by rw [Lib.cell_of_heap h2, List.length_map]; rfl, hg, c1, c2, c3, fun j x hx => ?_⟩
  exact h6 j (.int .u64 (x : Int)) (by unfold u64s; rw [List.getElem?_map, hx]; rfl)
theorem KStepS.within {w4 wc wr : World} {k r m : Nat} {S U : Nat → Prop} {s : GS} (hb : Below w4.heap.size w4 wc) (h : KStepS k r S (fun b => U b ∧ b < w4.heap.size) m s wc wr) : KStep k r U m s w4 wr := by
  obtain ⟨⟨vG, vB, h1⟩, h2⟩ := h
  refine ⟨⟨S, vG, vB, h1.mono ?_⟩, (Turned.of_below hb).trans (h2.mono fun b hb => hb.1.1)⟩
  rintro b (⟨hU, _⟩ | hz)
  · exact .inl hU
  · exact .inr (Nat.le_trans hb.size hz)
theorem kstep_start (k r m : Nat) (U : Nat → Prop) (s : GS) (w : World) (h : KAt w k r U m s) (hp : s.ph = 1) (hg : s.G = []) :
    Calls Tryz.prog 47 #[.pointer (some ⟨k, 0, none⟩)] w (KOne k r U m (false, ⟨s.L, 2, s.G, s.B, 0⟩) w) := by
  have hst := h.inv.step
  unfold GS.step at hst
  rw [if_pos hp, if_pos hg] at hst
  obtain ⟨S, vG, vB, hm⟩ := h
  obtain ⟨y0, k1, k2, y3, k4, hf, hkl⟩ := hm.head
  clear y0 y3
  obtain ⟨A, c, rfl, hx9⟩ := hm.greys.seen
  clear hx9
  have HE : Hid (KStep k r U m ⟨s.L, 2, s.G, s.B, 0⟩ w ((w.setCell ⟨k, 1, none⟩ (.int .i64 2)).setCell ⟨k, 4, none⟩ (.int .i64 0))) := Lib.hid (by
    have hb1 : (w.setCell ⟨k, 1, none⟩ (.int .i64 2)).heap[k]? = some (.cells #[.pointer (some ⟨r, 0, none⟩), .int .i64 2, .slice A s.G.length c, vB, .int .i64 (s.pos : Int)] 48 (0, 0)) := by
      rw [heap_setCell_same w k 1 _ _ _ hm.block]; rfl
    have hb2 : ((w.setCell ⟨k, 1, none⟩ (.int .i64 2)).setCell ⟨k, 4, none⟩ (.int .i64 0)).heap[k]? = some (.cells #[.pointer (some ⟨r, 0, none⟩), .int .i64 2, .slice A s.G.length c, vB, .int .i64 0] 48 (0, 0)) := by
      rw [heap_setCell_same _ k 4 _ _ _ hb1]; rfl
    have ho : ∀ b, b ≠ k → ((w.setCell ⟨k, 1, none⟩ (.int .i64 2)).setCell ⟨k, 4, none⟩ (.int .i64 0)).heap[b]? = w.heap[b]? := fun b hne => (heap_setCell_other _ _ b _ hne).trans (heap_setCell_other w _ b _ hne)
    have hsz : ((w.setCell ⟨k, 1, none⟩ (.int .i64 2)).setCell ⟨k, 4, none⟩ (.int .i64 0)).heap.size = w.heap.size := by simp [World.setCell]
    refine ⟨⟨S, .slice A s.G.length c, vB, hm.heap.keep fun b _ hS => ho b fun he => hm.kS (he ▸ hS), hb2, ⟨own_keep hm.greys.1 fun b hx => ho b (hm.greys.2 b hx).2.1, fun b hx => ?_⟩, ⟨own_keep hm.blacks.1 fun b hx => ho b (hm.blacks.2 b hx).2.1, fun b hx => ?_⟩, fun b hS => .inl (hm.inU b hS), .inl hm.kU, hm.kS, fun b hS => by rw [hsz]; exact hm.sb b hS, hst, hm.few⟩, ((Turned.refl U w).setCell _ _ hm.kU).setCell _ _ hm.kU⟩
    · have := hm.greys.2 b hx
      exact ⟨.inl this.1, this.2⟩
    · have := hm.blacks.2 b hx
      exact ⟨.inl this.1, this.2⟩)
  have f1 := hf 1
  have f4 := hf 4
  rw [hp] at k1
  rw [hg] at k2
  have k2' : w.cell? ⟨k, 2, none⟩ = some (.slice A 0 c) := k2
  clear hm hst hp hg hf k2
  go_enter Tryz.func47, Tryz.ntmps47
  go_wp2_with fail
  go_ret
  exact ⟨rfl, HE.out⟩
theorem kstep_rest (k r m : Nat) (U : Nat → Prop) (s : GS) (w : World) (h : KAt w k r U m s) (hp : s.ph = 0) :
    Calls Tryz.prog 47 #[.pointer (some ⟨k, 0, none⟩)] w (KOne k r U m (false, s) w) := by
  have k1 := h.cell1
  have HE := Lib.hid (KStep.stay h)
  rw [hp] at k1
  clear h hp
  go_enter Tryz.func47, Tryz.ntmps47
  go_wp2_with fail
  go_ret
  exact ⟨rfl, HE.out⟩
/-- The object's fields are shaded: from where it has been copied. -/
structure Shading (k r m : Nat) (S U : Nat → Prop) (s : GS) (p : Nat) (o : Ob) (F : Option Addr) (cf : Nat) (w4 wc : World) : Prop where
  mem : KStepS k r S (fun b => U b ∧ b < w4.heap.size) m s wc wc
  box : wc.heap[p]? = some (.cells #[.int .i64 (o.at_ : Int), .int .i64 (o.kind : Int), .slice F o.fs.length cf] 53 (0, 0))
  new : w4.heap.size ≤ p
  below : Below w4.heap.size w4 wc
  flds : ∀ (j x : Nat), o.fs[j]? = some x → ∃ f, F = some ⟨f, 0, none⟩ ∧ f < wc.heap.size ∧ S f ∧ wc.cell? ⟨f, j, none⟩ = some (.int .u64 (x : Int))
set_option maxHeartbeats 4000000 in
set_option maxRecDepth 100000 in
theorem kstep_black (k r m : Nat) (U : Nat → Prop) (s : GS) (w : World) (h : KAt w k r U m s) (hp : s.ph = 1) (hg : s.G ≠ []) (hv : Vals s.L) :
    Calls Tryz.prog 47 #[.pointer (some ⟨k, 0, none⟩)] w (KOne k r U m (false, s.blacken (least s.G)) w) := by
  obtain ⟨i0, hi0, hz0, hz1, hz2⟩ := info_parts infoInt
  obtain ⟨S, vG, vB, hm⟩ := h
  obtain ⟨k0, k1, k2, y3, y4, y5, hkl⟩ := hm.head
  clear y3 y4 y5
  obtain ⟨AG, cG, rfl, hsG⟩ := hm.greys.seen
  have hgl := grey_few hm.inv hm.few
  have hls := (least_spec hg).1
  have hpos := List.length_pos_iff.2 hg
  have HSG := Lib.hid hsG
  have HM := Lib.hid hm
  have HLS := Lib.hid hls
  have HV := Lib.hid hv
  have HPH := Lib.hid hp
  rw [hp] at k1
  have g1 : decide ((0 : Int) < (s.G.length : Int)) = true := decide_eq_true (by omega)
  have g1' : decide (0 < s.G.length) = true := decide_eq_true (by omega)
  have g1'' : (0 : Int) < (s.G.length : Int) := by omega
  obtain ⟨b0, he0, hb0, kb0⟩ := hsG 0 (by omega)
  have HL0 := Lib.hid (leastTo_zero (l := s.G))
  have HW := Lib.hid (without_any AG s.G cG (least s.G) w hsG (by omega))
  have HBK := Lib.hid (hm.inv.black hp hls)
  have HLG := Lib.hid (hm.inv.lessG (least s.G))
  subst he0
  clear hm hsG hls hv hp hg
  generalize s.G.getD 0 0 = x0 at kb0 HL0
  go_enter Tryz.func47, Tryz.ntmps47
  go_wp2_with fail
  clear g1 g1' g1'' hpos
  go_loop [4, 3] (fun vi va => ∃ i : Nat, i ≤ s.G.length ∧ vi = .int .i64 i ∧ va = .int .i64 (leastTo s.G i : Nat)) (fun vi _ => s.G.length - (intOf vi).toNat)
  case atStart => exact ⟨0, by omega, by go_num, by rw [HL0.out]⟩
  case round =>
    obtain ⟨i, hi, rfl, rfl⟩ := hrel
    clear kb0
    by_cases hil : i < s.G.length
    · have g2 : decide ((i : Int) < (s.G.length : Int)) = true := decide_eq_true (by omega)
      have g2' : decide (i < s.G.length) = true := decide_eq_true hil
      have g3 : (0 : Int) ≤ (i : Int) := by omega
      have g4 : (i : Int) < (s.G.length : Int) := by omega
      obtain ⟨b, hbe, hbl, kb⟩ := HSG.out i hil
      obtain rfl : b0 = b := by simpa using hbe
      have HLM := Lib.hid (leastTo_more hil)
      clear hbe
      by_cases hlt : s.G.getD i 0 < leastTo s.G i
      · rw [if_pos hlt] at HLM
        have B1 : decide (((s.G.getD i 0 : Nat) : Int) < ((leastTo s.G i : Nat) : Int)) = true := decide_eq_true (by omega)
        have B1' : decide (s.G.getD i 0 < leastTo s.G i) = true := decide_eq_true hlt
        clear hlt
        generalize s.G.getD i 0 = x at *
        generalize leastTo s.G i = y at *
        go_wp2_with fail
        go_round
        case rel => exact ⟨i + 1, by omega, by go_num, by rw [HLM.out]⟩
        case measure => simp [intOf]; omega
      · rw [if_neg hlt] at HLM
        have B1 : decide (((s.G.getD i 0 : Nat) : Int) < ((leastTo s.G i : Nat) : Int)) = false := decide_eq_false (by omega)
        have B1' : decide (s.G.getD i 0 < leastTo s.G i) = false := decide_eq_false hlt
        clear hlt
        generalize s.G.getD i 0 = x at *
        generalize leastTo s.G i = y at *
        go_wp2_with fail
        go_round
        case rel => exact ⟨i + 1, by omega, by go_num, by rw [HLM.out]⟩
        case measure => simp [intOf]; omega
    · have g2 : decide ((i : Int) < (s.G.length : Int)) = false := decide_eq_false (by omega)
      have g2' : decide (i < s.G.length) = false := decide_eq_false hil
      obtain rfl : i = s.G.length := by omega
      rw [leastTo_all]
      obtain ⟨a, ha⟩ : ∃ a, least s.G = a := ⟨_, rfl⟩
      have HEQ := Lib.hid ha
      rw [ha] at HW HBK HLG HLS ⊢
      have HBL : Hid (s.blacken a = (s.black a).shades (kidsOf s.L a)) := Lib.hid rfl
      clear ha HL0
      go_wp2_with fail
      refine HW.out.mono ?_
      rintro e w1 ⟨v1, rfl, hgr⟩
      obtain ⟨hk1, hst1⟩ := HM.out.greyed hgr HLG.out
      have HS1 := Lib.hid hst1
      obtain ⟨A1, c1, rfl, hx9⟩ := hgr.1.seen
      clear hx9
      have f1 : w1.frozen? ⟨k, 2, none⟩ = false := Lib.frozen_of_heap hk1 2
      have f2 : w1.cell? ⟨k, 2, none⟩ = some (.slice (some ⟨b0, 0, none⟩) s.G.length cG) := by rw [Lib.cell_of_heap hk1]; rfl
      clear hgr hk1 hst1 k0 k1 k2 HSG HW g2 g2' hil hi
      go_upto_region 9 with fail
      generalize w1.setCell ⟨k, 2, none⟩ (.slice A1 (without s.G a).length c1) = w2 at *
      obtain ⟨S2, vG2, vB2, hm2⟩ := HS1.out.1
      have HM2 := Lib.hid hm2
      have j3 : w2.cell? ⟨k, 3, none⟩ = some vB2 := hm2.head.2.2.2.1
      have hbl2 : s.B.length ≤ 65536 := by have := black_few hm2.inv; have := hm2.few; simp only at *; omega
      have hown : Hid ((w2.alloc (.cells #[.int .i64 (a : Int)] 3)).ownsRow 0 3 1 vB2 s.B.length (nums .i64 s.B)) := Lib.hid (hm2.blacks.1.alloc _)
      have hsrc := Lib.hid (one_src w2 a)
      have hone := Lib.hid (one_cell a)
      clear f1 f2 hm2
      go_wp2_with (at_builtin; refine wpList_append_own_at _ rfl (.tmp 65) (.tmp 67) 44 rfl 0 3 i0 _ 1 8 Tryz.underlying44 hi0 hz0 hz1 hz2 rfl (by decide) _ _ _ rfl hown.out ⟨w2.heap.size, 0, none⟩ 1 1 [.int .i64 (a : Int)] rfl rfl hsrc.out hone.out (by unfold maxLen; omega) (by omega) (Nat.zero_le _) ?_)
      intro v3 w3 hown1 hgr1 hnn1 hat1
      have hfin := HM2.out.black hown1 hgr1 (by simpa using hat1) HBK.out
      have f3 : w3.frozen? ⟨k, 3, none⟩ = false := Lib.frozen_of_heap hfin.1 3
      have f4 : w3.cell? ⟨k, 3, none⟩ = some vB2 := by rw [Lib.cell_of_heap hfin.1]; rfl
      have HS3 : Hid (KStep k r U m (s.black a) w (w3.setCell ⟨k, 3, none⟩ v3)) := Lib.hid (HS1.out.then hfin.2)
      obtain ⟨f5, c5, rfl⟩ : ∃ f5 c5, v3 = .slice (some ⟨f5, 0, none⟩) (s.B.length + 1) c5 := by
        rcases hown1.2 with ⟨h, _⟩ | ⟨g', k', _, h, _⟩
        · exact (hnn1 h).elim
        · exact ⟨g', k', h⟩
      clear hown1 hgr1 hnn1 hat1 hfin hown hsrc hone j3 HM2 HS1
      go_upto_region 10 with fail
      generalize w3.setCell ⟨k, 3, none⟩ (.slice (some ⟨f5, 0, none⟩) (s.B.length + 1) c5) = w4 at *
      clear f3 f4 HM
      obtain ⟨S4, vG4, vB4, hm4⟩ := HS3.out.1
      have hin4 : IsIn s.L a := hm4.inv.bin a (by show a ∈ s.B ++ [a]; simp)
      obtain ⟨o, hob⟩ := isIn_some hin4
      obtain ⟨kk, hkk, hao⟩ := find_place hob
      have HKD : Hid (kidsOf s.L a = if o.kind = 1 then [] else o.fs) := Lib.hid (kids_some hob)
      have hmo := (find_mem hob).1
      have hofl := lies_fields hm4.inv.lies hm4.few o hmo
      have HVO := Lib.hid (HV.out o hmo)
      have hlen : s.L.length ≤ 65536 := lies_len hm4.inv.lies hm4.few
      have hkl := (List.getElem?_eq_some_iff.1 hkk).1
      obtain ⟨g, cg, Fs, cf, l1, hgs, l2, l3, l4, hfs⟩ := hm4.heap.fields hkk
      have l0 := hm4.head.1
      have hrr := hm4.heap.lt
      have hk4 := lt_of_heap hm4.block
      have HFD := Lib.hid (fun W (hW : RefAt W r S4 m s.L) => find_same r S4 m s.L W hW hm4.inv.lies hlen hkk)
      have HM4 := Lib.hid hm4
      have HFS := Lib.hid hfs
      subst hao
      have l1' : w4.cell? ⟨r, 1, none⟩ = some (.slice (some ⟨g, 0, none⟩) s.L.length cg) := l1
      have g3 : (kk : Int) < (s.L.length : Int) := by omega
      have g4 : (0 : Int) ≤ (kk : Int) := by omega
      clear hm4 hob hkk hmo hfs hin4 l1 hbl2 hkl
      go_cut [5] from 71 to 85 (fun v5 wx => ∃ p : Nat, v5 = .pointer (some ⟨p, 0, none⟩) ∧ Hid (OneOb w4 wx p o Fs cf))
      case first =>
        have E2 : IntKind.i64.wrap (kk : Int) = (kk : Int) := by rw [IntKind.wrap_i64]; omega
        go_region_held3 (fun W => W.cell? ⟨k, 0, none⟩ = some (.pointer (some ⟨r, 0, none⟩)) ∧ W.cell? ⟨r, 1, none⟩ = some (.slice (some ⟨g, 0, none⟩) s.L.length cg) ∧ W.cell? ⟨g, kk * 3, none⟩ = some (.int .i64 (o.at_ : Int)) ∧ W.cell? ⟨g, kk * 3 + 1, none⟩ = some (.int .i64 (o.kind : Int)) ∧ W.cell? ⟨g, kk * 3 + 2, none⟩ = some (.slice Fs o.fs.length cf)) (go_keep)
          ((go_at_call 21; refine (HFD.out _ ?_).mono ?_; (first | exact (HM4.out.heap.below (below_one _)).drew | exact HM4.out.heap.drew); rintro e w' ⟨rfl, rfl⟩))
        all_goals
          go_wp2_with fail
          go_meet
          exact ⟨_, rfl, Lib.hid ⟨heap_alloc_new w4 _, (below_one _).drew, Nat.le_refl _⟩⟩
      case rest =>
        obtain ⟨p, rfl, HOO⟩ := hcut
        have HSH : Hid (Shading k r m S4 (fun b => U b ∨ w.heap.size ≤ b) (s.black o.at_) p o Fs cf w4 wc) := Lib.hid ⟨.stay (HM4.out.bounded.below HOO.out.2.1), HOO.out.1, HOO.out.2.2, HOO.out.2.1, fun j x hx => by
          obtain ⟨f, h1, h2, h3, h4⟩ := HFS.out j x hx
          exact ⟨f, h1, Nat.lt_of_lt_of_le h2 HOO.out.2.1.size, h3, (HOO.out.2.1.cell (p := ⟨f, j, none⟩) h2).trans h4⟩⟩
        have HI0 : Hid (KStepS k r S4 (fun b => (U b ∨ w.heap.size ≤ b) ∧ b < w4.heap.size) m ((s.black o.at_).shades (o.fs.take 0)) wc wc) := Lib.hid HSH.out.mem
        clear HOO HM4 HFS HFD l0 l1' l2 l3 l4 hgs hrr hk4 g3 g4
        go_wp2_with fail
        go_loopw [6] (fun vt wr => ∃ t : Nat, t ≤ o.fs.length ∧ vt = .int .i64 t ∧ Hid (o.kind = 1 → t = 0) ∧ Hid (KStepS k r S4 (fun b => (U b ∨ w.heap.size ≤ b) ∧ b < w4.heap.size) m ((s.black o.at_).shades (o.fs.take t)) wc wr)) (fun vt _ => o.fs.length - (intOf vt).toNat)
        case atStart => exact ⟨0, by omega, by go_num, Lib.hid (fun _ => rfl), HI0⟩
        case round =>
          obtain ⟨t, ht, rfl, HK1, HI⟩ := hrel
          clear HI0
          have hpb : wr.heap[p]? = some (.cells #[.int .i64 (o.at_ : Int), .int .i64 (o.kind : Int), .slice Fs o.fs.length cf] 53 (0, 0)) :=
            (HI.out.2.block p (lt_of_heap HSH.out.box) (fun hx => by have := HSH.out.new; have := hx.1.2; omega)).trans HSH.out.box
          have kp1 : wr.cell? ⟨p, 1, none⟩ = some (.int .i64 (o.kind : Int)) := by rw [Lib.cell_of_heap hpb]; rfl
          have kp2 : wr.cell? ⟨p, 2, none⟩ = some (.slice Fs o.fs.length cf) := by rw [Lib.cell_of_heap hpb]; rfl
          have hpl := lt_of_heap hpb
          clear hpb
          by_cases hend : t < o.fs.length ∧ o.kind ≠ 1
          · have htl := hend.1
            have g2 : decide ((t : Int) < (o.fs.length : Int)) = true := decide_eq_true (by omega)
            have g2' : decide (t < o.fs.length) = true := decide_eq_true htl
            have B1 : ((o.kind : Int) != 1) = true := by rw [bne_iff_ne]; have := hend.2; omega
            have g5 : (0 : Int) ≤ (t : Int) := by omega
            have g6 : (t : Int) < (o.fs.length : Int) := by omega
            have HK2 : Hid (o.kind = 1 → t + 1 = 0) := Lib.hid (fun hx => absurd hx hend.2)
            have hel : o.fs[t]? = some (o.fs.getD t 0) := by rw [List.getD_eq_getElem?_getD, List.getElem?_eq_getElem htl]; rfl
            obtain ⟨f, rfl, hfl, hfS, kf0⟩ := HSH.out.flds t _ hel
            have kf : wr.cell? ⟨f, t, none⟩ = some (.int .u64 ((o.fs.getD t 0 : Nat) : Int)) := (World.cell?_of_block (w := wc) (HI.out.2.block f hfl (fun hx => hx.2 hfS))).trans kf0
            have hfr : f < wr.heap.size := Nat.lt_of_lt_of_le hfl HI.out.2.size
            have hx64 := HVO.out _ (List.mem_of_getElem? hel)
            have hph : ((s.black o.at_).shades (o.fs.take t)).ph = 1 := (shades_same _ _).2.1.trans HPH.out
            obtain ⟨vGr, vBr, hmr⟩ := HI.out.1
            have HSD := Lib.hid (kshadeS_any k r m S4 _ _ vGr vBr wr hmr hph (o.fs.getD t 0) hx64)
            rw [← shades_more, ← take_snoc_get htl] at HSD
            clear hend hel hfS kf0 hx64 hph hmr
            generalize o.fs.getD t 0 = x at *
            go_wp2_with fail
            refine HSD.out.mono ?_
            rintro e w5 ⟨rfl, hs5⟩
            have HI5 := Lib.hid (HI.out.then hs5)
            clear hs5
            go_wp2_with fail
            go_roundw
            case rel => exact ⟨t + 1, by omega, by go_num, HK2, HI5⟩
            case measure => simp [intOf]; omega
          · have hce : o.fs.length ≤ t ∨ (t < o.fs.length ∧ o.kind = 1) := by
              by_cases h1 : t < o.fs.length
              · right
                refine ⟨h1, ?_⟩
                by_cases h2 : o.kind = 1
                · exact h2
                · exact absurd ⟨h1, h2⟩ hend
              · left; omega
            have HFN : Hid (KStep k r U m (s.blacken o.at_) w wr) := Lib.hid (by
              rw [HBL.out, HKD.out]
              have h5 := HS3.out.then (KStepS.within HSH.out.below HI.out)
              by_cases h1 : o.kind = 1
              · rw [if_pos h1]
                rw [HK1.out h1] at h5
                exact h5
              · rw [if_neg h1]
                rw [List.take_of_length_le (by rcases hce with h2 | h2; exact h2; exact absurd h2.2 h1)] at h5
                exact h5)
            rcases hce with h1 | ⟨h1, h2⟩
            · have g2 : decide ((t : Int) < (o.fs.length : Int)) = false := decide_eq_false (by omega)
              have g2' : decide (t < o.fs.length) = false := decide_eq_false (by omega)
              clear hend
              go_wp2_with fail
              go_ret
              refine ⟨rfl, ?_⟩
              show KStep k r U m (s.blacken (least s.G)) w wr
              rw [HEQ.out]
              exact HFN.out
            · have g2 : decide ((t : Int) < (o.fs.length : Int)) = true := decide_eq_true (by omega)
              have g2' : decide (t < o.fs.length) = true := decide_eq_true h1
              have B1 : ((o.kind : Int) != 1) = false := by rw [h2]; rfl
              clear hend h2
              go_wp2_with fail
              go_ret
              refine ⟨rfl, ?_⟩
              show KStep k r U m (s.blacken (least s.G)) w wr
              rw [HEQ.out]
              exact HFN.out
theorem knext_quiet (r m : Nat) (S : Nat → Prop) (L : List Ob) (w : World) (h : RefAt w r S m L) (hn : L.length ≤ 65536) (p n : Nat) :
    Calls Tryz.prog 78 #[.pointer (some ⟨r, 0, none⟩), .int .i64 (p : Int)] (w.drewN n) fun e w' => e = .returned (.int .i64 (nextOb L p : Nat)) ∧ w' = w.drewN n := by
  have := ref_Next r S m L p (w.drewN n) (h.below (below_draws (Below.refl _ _) n)) hn
  rw [Int.toNat_natCast] at this
  exact this.mono fun e w' ⟨he, hw⟩ => ⟨he, hw.symm⟩
theorem kfree_low (k r m : Nat) (U : Nat → Prop) (s : GS) (w : World) (h : KAt w k r U m s) (a : Nat) (hw : s.White a) :
    Calls Tryz.prog 80 #[.pointer (some ⟨r, 0, none⟩), .int .i64 (a : Int)] w (KErr k r U m (0, ⟨dropOb s.L a, s.ph, s.G, s.B, s.pos⟩) w) := by
  obtain ⟨S, vG, vB, hm⟩ := h
  have hf := ref_Free r S m s.L (a : Int) w hm.heap hm.inv.lies (lies_len hm.inv.lies hm.few)
  obtain ⟨o, ho⟩ := isIn_some hw.1
  rw [hFree_at ho] at hf
  refine hf.mono ?_
  rintro e w' ⟨he, hs⟩
  obtain ⟨⟨S', j1⟩, j2⟩ := hm.heaped hs (hm.inv.dropped hw)
  exact ⟨he, ⟨S', vG, vB, j1⟩, j2⟩
theorem KAt.blacks {w : World} {k r m : Nat} {U : Nat → Prop} {s : GS} (h : KAt w k r U m s) : ∃ A c, w.cell? ⟨k, 3, none⟩ = some (.slice A s.B.length c) ∧ SeenInts w A s.B := by
  obtain ⟨S, vG, vB, hm⟩ := h
  obtain ⟨A, c, rfl, h1⟩ := hm.blacks.seen
  exact ⟨A, c, hm.head.2.2.2.1, h1⟩
/-- The black ones without a, then the place: two cells of its own. -/
theorem KAt.tail {w w1 : World} {k r m a : Nat} {U : Nat → Prop} {s : GS} {v : Value} (h : KAt w k r U m s) (hg : Grows w.heap.size w w1 v (without s.B a)) (hi : GInv m ⟨s.L, s.ph, s.G, without s.B a, a + 1⟩) :
    (∃ vo, w1.cell? ⟨k, 3, none⟩ = some vo) ∧ w1.frozen? ⟨k, 3, none⟩ = false ∧ (∃ vp, (w1.setCell ⟨k, 3, none⟩ v).cell? ⟨k, 4, none⟩ = some vp) ∧ (w1.setCell ⟨k, 3, none⟩ v).frozen? ⟨k, 4, none⟩ = false ∧
      KStep k r U m ⟨s.L, s.ph, s.G, without s.B a, a + 1⟩ w ((w1.setCell ⟨k, 3, none⟩ v).setCell ⟨k, 4, none⟩ (.int .i64 ((a + 1 : Nat) : Int))) := by
  have hl := h.inv.lessB a
  obtain ⟨S, vG, vB, hm⟩ := h
  obtain ⟨h1, h2⟩ := hm.blacked hg hl
  obtain ⟨S2, vG2, vB2, hm2⟩ := h2.1
  refine ⟨⟨_, by rw [Lib.cell_of_heap h1]; rfl⟩, Lib.frozen_of_heap h1 3, ⟨_, hm2.head.2.2.2.2.1⟩, hm2.head.2.2.2.2.2.1 4, ?_⟩
  exact h2.then (hm2.place (a + 1) hi)
set_option maxHeartbeats 2000000 in
set_option maxRecDepth 100000 in
theorem kstep_end (k r m : Nat) (U : Nat → Prop) (s : GS) (w : World) (h : KAt w k r U m s) (hp : s.ph = 2) (hn : nextOb s.L s.pos = 0) :
    Calls Tryz.prog 47 #[.pointer (some ⟨k, 0, none⟩)] w (KOne k r U m (true, ⟨s.L, 0, s.G, s.B, s.pos⟩) w) := by
  have hst := h.inv.step
  unfold GS.step at hst
  rw [if_neg (by omega), if_pos hp, if_pos hn] at hst
  have hlen := lies_len h.inv.lies h.few
  have HE : Hid (∀ n, KStep k r U m ⟨s.L, 0, s.G, s.B, s.pos⟩ w ((w.drewN n).setCell ⟨k, 1, none⟩ (.int .i64 0))) := Lib.hid (fun n => by
    have h1 := KStep.quiet h (below_draws (Below.refl _ w) n)
    obtain ⟨S, vG, vB, hm⟩ := h1.1
    exact h1.then (hm.phase 0 hst))
  obtain ⟨S, vG, vB, hm⟩ := h
  obtain ⟨k0, k1, _, _, k4, hf, hkl⟩ := hm.head
  have f1 := hf 1
  rw [hp] at k1
  have HNX := Lib.hid (fun n => by
    have := knext_quiet r m S s.L w hm.heap hlen s.pos n
    rw [hn] at this
    exact this)
  clear hm hst hp hn hf
  generalize hps : s.pos = p at *
  clear hps
  go_enter Tryz.func47, Tryz.ntmps47
  go_wp2_with fail
  go_quiet ((go_at_call 78; exact Calls.quiet_of_same (HNX.out _)))
  go_wp2_with fail
  go_ret
  exact ⟨rfl, HE.out _⟩
set_option maxHeartbeats 2000000 in
set_option maxRecDepth 100000 in
theorem kstep_sweep (k r m : Nat) (U : Nat → Prop) (s : GS) (w : World) (h : KAt w k r U m s) (hp : s.ph = 2) (a : Nat) (hn : nextOb s.L s.pos = a) (ha0 : a ≠ 0) :
    Calls Tryz.prog 47 #[.pointer (some ⟨k, 0, none⟩)] w (KOne k r U m (false, s.sweep a) w) := by
  have hst := h.inv.step
  unfold GS.step at hst
  rw [if_neg (by omega), if_pos hp, if_neg (by rw [hn]; exact ha0), hn] at hst
  have hlen := lies_len h.inv.lies h.few
  have hbl : s.B.length ≤ 65536 := by have := black_few h.inv; have := h.few; omega
  have hin : IsIn s.L a := by
    rcases next_facts h.inv.lies (Nat.le_refl _) s.pos with ⟨k1, _⟩ | ⟨k1, _⟩
    · exact absurd (hn.symm.trans k1) ha0
    · rw [hn] at k1; exact k1
  have hal : a ≤ 65536 := by have := isIn_range h.inv.lies hin; have := h.few; omega
  have HDR : Hid (∀ n, KStep k r U m s w (w.drewN n)) := Lib.hid (fun n => KStep.quiet h (below_draws (Below.refl _ _) n))
  obtain ⟨S, vG, vB, hm⟩ := h
  obtain ⟨k0, k1, _, _, k4, hf, hkl⟩ := hm.head
  rw [hp] at k1
  have HNX := Lib.hid (fun n => by
    have := knext_quiet r m S s.L w hm.heap hlen s.pos n
    rw [hn] at this
    exact this)
  have B0 : ((a : Int) == 0) = false := by rw [beq_eq_false_iff_ne]; omega
  have E1 : IntKind.i64.wrap ((a : Int) + 1) = ((a + 1 : Nat) : Int) := by rw [IntKind.wrap_i64]; omega
  have HST := Lib.hid hst
  clear hm hst hp hn hf hin
  generalize hps : s.pos = p at *
  have HPS := Lib.hid hps
  clear hps
  by_cases hw : s.White a
  · have HWT : Hid (∀ w1 U1, KAt w1 k r U1 m s → Calls Tryz.prog 79 #[.pointer (some ⟨k, 0, none⟩), .int .i64 (a : Int)] w1 (BoolSame true w1)) := Lib.hid (fun w1 U1 h1 => by
      have := kwhite_any k r m U1 s w1 h1 (a : Int)
      rw [decide_eq_true ⟨by omega, by rw [Int.toNat_natCast]; exact hw⟩] at this
      exact this)
    have HFR := Lib.hid (fun w1 U1 (h1 : KAt w1 k r U1 m s) => kfree_low k r m U1 s w1 h1 a hw)
    have HSW : Hid (s.sweep a = ⟨dropOb s.L a, s.ph, s.G, without s.B a, a + 1⟩) := Lib.hid (by unfold GS.sweep; rw [if_pos hw])
    rw [HSW.out] at HST ⊢
    clear hw
    go_enter Tryz.func47, Tryz.ntmps47
    go_wp2_with fail
    go_quiet ((go_at_call 78; exact Calls.quiet_of_same (HNX.out _)))
    go_wp2_with fail
    generalize hwq : w.drewN _ = wq at *
    have HSQ : Hid (KStep k r U m s w wq) := Lib.hid (by rw [← hwq]; exact HDR.out _)
    clear hwq
    refine (HWT.out wq _ HSQ.out.1).mono ?_
    rintro e w' ⟨rfl, rfl⟩
    have j0 := HSQ.out.1.head
    go_wp2_with fail
    refine (HFR.out wq _ HSQ.out.1).mono ?_
    rintro e w2 ⟨rfl, hs2⟩
    have HS2 := Lib.hid (HSQ.out.then hs2)
    clear hs2 HSQ
    obtain ⟨A3, c3, j3, hs3⟩ := HS2.out.1.blacks
    have HW3 := Lib.hid (without_any A3 s.B c3 a w2 hs3 (by omega))
    have j3' : w2.cell? ⟨k, 3, none⟩ = some (.slice A3 s.B.length c3) := j3
    clear hs3 j3
    go_wp2_with fail
    refine HW3.out.mono ?_
    rintro e w3 ⟨v3, rfl, hgr⟩
    obtain ⟨⟨vo, q1⟩, q2, ⟨vp, q3⟩, q4, hs4⟩ := HS2.out.1.tail hgr HST.out
    have HE : Hid (KStep k r U m _ w _) := Lib.hid (HS2.out.then hs4)
    obtain ⟨A4, c4, rfl, _⟩ := hgr.1.seen
    clear hgr hs4 j3'
    go_wp2_with fail
    go_ret
    exact ⟨rfl, HE.out⟩
  · have HWT : Hid (∀ w1 U1, KAt w1 k r U1 m s → Calls Tryz.prog 79 #[.pointer (some ⟨k, 0, none⟩), .int .i64 (a : Int)] w1 (BoolSame false w1)) := Lib.hid (fun w1 U1 h1 => by
      have := kwhite_any k r m U1 s w1 h1 (a : Int)
      rw [decide_eq_false (fun hx => hw (by have := hx.2; rw [Int.toNat_natCast] at this; exact this))] at this
      exact this)
    have HSW : Hid (s.sweep a = ⟨s.L, s.ph, s.G, without s.B a, a + 1⟩) := Lib.hid (by unfold GS.sweep; rw [if_neg hw])
    rw [HSW.out] at HST ⊢
    clear hw
    go_enter Tryz.func47, Tryz.ntmps47
    go_wp2_with fail
    go_quiet ((go_at_call 78; exact Calls.quiet_of_same (HNX.out _)))
    go_wp2_with fail
    generalize hwq : w.drewN _ = wq at *
    have HSQ : Hid (KStep k r U m s w wq) := Lib.hid (by rw [← hwq]; exact HDR.out _)
    clear hwq
    refine (HWT.out wq _ HSQ.out.1).mono ?_
    rintro e w' ⟨rfl, rfl⟩
    have HS2 := HSQ
    clear HSQ
    obtain ⟨A3, c3, j3, hs3⟩ := HS2.out.1.blacks
    have HW3 := Lib.hid (without_any A3 s.B c3 a wq hs3 (by omega))
    have j3' : wq.cell? ⟨k, 3, none⟩ = some (.slice A3 s.B.length c3) := j3
    clear hs3 j3
    go_wp2_with fail
    refine HW3.out.mono ?_
    rintro e w3 ⟨v3, rfl, hgr⟩
    obtain ⟨⟨vo, q1⟩, q2, ⟨vp, q3⟩, q4, hs4⟩ := HS2.out.1.tail hgr HST.out
    have HE : Hid (KStep k r U m _ w _) := Lib.hid (HS2.out.then hs4)
    obtain ⟨A4, c4, rfl, _⟩ := hgr.1.seen
    clear hgr hs4 j3'
    go_wp2_with fail
    go_ret
    exact ⟨rfl, HE.out⟩
theorem kstep_any (k r m : Nat) (U : Nat → Prop) (s : GS) (w : World) (h : KAt w k r U m s) (hv : Vals s.L) :
    Calls Tryz.prog 47 #[.pointer (some ⟨k, 0, none⟩)] w (KOne k r U m s.step w) := by
  have hph := h.inv.ph
  by_cases h1 : s.ph = 1
  · by_cases hg : s.G = []
    · have := kstep_start k r m U s w h h1 hg
      unfold GS.step
      rw [if_pos h1, if_pos hg]
      exact this
    · have := kstep_black k r m U s w h h1 hg hv
      unfold GS.step
      rw [if_pos h1, if_neg hg]
      exact this
  · by_cases h2 : s.ph = 2
    · by_cases hn : nextOb s.L s.pos = 0
      · have := kstep_end k r m U s w h h2 hn
        unfold GS.step
        rw [if_neg h1, if_pos h2, if_pos hn]
        exact this
      · have := kstep_sweep k r m U s w h h2 _ rfl hn
        unfold GS.step
        rw [if_neg h1, if_pos h2, if_neg hn]
        exact this
    · have := kstep_rest k r m U s w h (by omega)
      unfold GS.step
      rw [if_neg h1, if_neg h2]
      exact this
theorem kfinish_any (k r m : Nat) (U : Nat → Prop) (s : GS) (w : World) (h : KAt w k r U m s) (hv : Vals s.L) :
    Calls Tryz.prog 38 #[.pointer (some ⟨k, 0, none⟩)] w (KFin k r U m s w) := kfinish_of k r m (fun U s w h hv => kstep_any k r m U s w h hv) U s w h hv
end Go.Proofs.YtdkbgdjkdalalaaGreatDoor
