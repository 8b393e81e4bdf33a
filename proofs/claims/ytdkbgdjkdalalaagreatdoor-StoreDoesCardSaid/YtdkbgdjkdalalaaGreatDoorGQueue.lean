/-
  The walks of the collector's queue: what is least is at hand, put in, taken out.
-/
import Derived.Test.YtdkbgdjkdalalaaGreatDoorHRefAlloc
import Derived.Test.YtdkbgdjkdalalaaGreatDoorHAt
import Derived.Test.YtdkbgdjkdalalaaGreatDoorHDo
import Derived.Test.YtdkbgdjkdalalaaGreatDoorQMath
import Derived.BigRegion
import Derived.BigQuiet
import Derived.Deep.QuietTactic
namespace Go.Proofs.YtdkbgdjkdalalaaGreatDoor
open Go.RowKit
def nums (k : IntKind) (l : List Nat) : List Value := l.map fun (x : Nat) => Value.int k x
theorem nums_len (k : IntKind) (l : List Nat) : (nums k l).length = l.length := by simp [nums]
theorem nums_at (k : IntKind) (l : List Nat) (i : Nat) (h : i < l.length) : (nums k l)[i]? = some (.int k (l.getD i 0 : Nat)) := by
  simp [nums, List.getElem?_map, List.getElem?_eq_getElem h]
theorem nums_set (k : IntKind) (l : List Nat) (i x : Nat) : (nums k l).set i (.int k x) = nums k (l.set i x) := by
  simp [nums, List.map_set]
theorem nums_take (k : IntKind) (l : List Nat) (i : Nat) : (nums k l).take i = nums k (l.take i) := by simp [nums]
theorem nums_snoc (k : IntKind) (l : List Nat) (x : Nat) : nums k l ++ [.int k x] = nums k (l ++ [x]) := by simp [nums]
/-- A row of numbers lies at the head of block g, with space for c. -/
def Nums (w : World) (k : IntKind) (t : TypeId) (g c : Nat) (l : List Nat) : Prop := w.ownsRow 0 t 1 (.slice (some ⟨g, 0, none⟩) l.length c) l.length (nums k l)
section
variable {w w' : World} {k : IntKind} {t : TypeId} {g c : Nat} {l : List Nat}
theorem Nums.cell (h : Nums w k t g c l) (i : Nat) (hi : i < l.length) : w.cell? ⟨g, i, none⟩ = some (.int k (l.getD i 0 : Nat)) := by
  rw [World.ownsRow.cellAt h i (by omega), nums_at k l i hi]
theorem Nums.frozen (h : Nums w k t g c l) (i : Nat) : w.frozen? ⟨g, i, none⟩ = false := World.ownsRow.frozenAt h i
theorem Nums.set (h : Nums w k t g c l) (i x : Nat) : Nums (w.setCell ⟨g, i, none⟩ (.int k x)) k t g c (l.set i x) ∧ w.grownBy (w.setCell ⟨g, i, none⟩ (.int k x)) (some g) := by
  have h1 := World.ownsRow.stored h i (.int k x)
  rw [nums_set] at h1
  unfold Nums
  rw [List.length_set]
  exact h1
theorem Nums.keep (h : Nums w k t g c l) (hb : w'.heap[g]? = w.heap[g]?) : Nums w' k t g c l := by
  refine ⟨h.1, ?_⟩
  rcases h.2 with ⟨he, _⟩ | ⟨g', cap, cur, he, hr⟩
  · simp at he
  · simp only [Value.slice.injEq, Option.some.injEq, Addr.mk.injEq, and_true, true_and] at he
    obtain ⟨rfl, rfl⟩ := he
    exact .inr ⟨g, c, cur, rfl, hr.1, hb.trans hr.2.1, hr.2.2⟩
theorem Nums.lt (h : Nums w k t g c l) : g < w.heap.size := (World.ownsRow.lt h g rfl).2
theorem Nums.block (h : Nums w k t g c l) : ∃ cur, w.heap[g]? = some (.cells cur t (0, 0)) := by
  obtain ⟨cur, _, h2, _⟩ := own_open h
  exact ⟨cur, h2⟩
theorem Nums.cap (h : Nums w k t g c l) : l.length ≤ c ∧ c ≤ 9223372036854775807 := by
  obtain ⟨_, _, _, h3, h4, _⟩ := own_open h
  unfold maxLen at h4
  exact ⟨h3, by omega⟩
theorem Nums.below (h : Nums w k t g c l) (hb : Below w.heap.size w w') : Nums w' k t g c l := h.keep (hb.block g h.lt)
end
theorem below_draws {w wx : World} {n : Nat} (h : Below n w wx) (k : Nat) : Below n w (wx.drewN k) := ⟨h.os, h.tape, h.output, h.size, h.block⟩
/-- The least of a place and the two below it, as far as they were looked at. -/
def lowAt (l : List Nat) (i : Nat) : Nat → Nat
  | 0 => i
  | 1 => low1 l i
  | _ => lowQ l i
theorem low_end0 {l : List Nat} {i : Nat} (h : l.length ≤ 2 * i + 1) : lowQ l i = i := by
  unfold lowQ low1
  rw [if_neg (fun hx => absurd hx.1 (by omega)), if_neg (fun hx => absurd hx.1 (by omega))]
theorem low_end1 {l : List Nat} {i : Nat} (h : l.length ≤ 2 * i + 2) : lowQ l i = low1 l i := by
  unfold lowQ
  rw [if_neg (fun hx => absurd hx.1 (by omega))]
theorem low1_lt {l : List Nat} {i : Nat} (h : i < l.length) : low1 l i < l.length := by
  unfold low1; split <;> omega
theorem low_go0 {l : List Nat} {i : Nat} (h : 2 * i + 1 < l.length) : low1 l i = if l.getD (2 * i + 1) 0 < l.getD i 0 then 2 * i + 1 else i := by
  unfold low1; simp [h]
theorem low_go1 {l : List Nat} {i : Nat} (h : 2 * i + 2 < l.length) : lowQ l i = if l.getD (2 * i + 2) 0 < l.getD (low1 l i) 0 then 2 * i + 2 else low1 l i := by
  unfold lowQ; simp [h]
set_option maxHeartbeats 1000000 in
set_option maxRecDepth 100000 in
theorem lower_any (b c : Nat) (l : List Nat) (i : Nat) (w : World) (hq : Nums w .i64 3 b c l) (hi : i < l.length) (hn : l.length ≤ 65536) :
    Calls Tryz.prog 103 #[.slice (some ⟨b, 0, none⟩) l.length c, .int .i64 (i : Int)] w (IntMade (lowQ l i : Nat) w) := by
  have HQ := Lib.hid hq
  have hbl := hq.lt
  clear hq
  go_enter Tryz.func103, Tryz.ntmps103
  go_wp2_with fail
  go_loopw [5, 6] (fun vl vb wr => ∃ t lo : Nat, t ≤ 2 ∧ vb = .int .i64 (2 * i + 1 + t : Nat) ∧ vl = .int .i64 lo ∧ Hid (lo = lowAt l i t) ∧ lo < l.length ∧ Hid (Below w.heap.size w wr)) (fun _ vb _ => 2 * i + 4 - (intOf vb).toNat)
  case atStart => exact ⟨0, i, by omega, by go_num, rfl, Lib.hid rfl, hi, Lib.hid (Below.refl _ _)⟩
  case round =>
    obtain ⟨t, lo, ht, rfl, rfl, HL, hlo, HB⟩ := hrel
    by_cases hgo : t ≤ 1 ∧ 2 * i + 1 + t < l.length
    · have g1 : decide (((2 * i + 1 + t : Nat) : Int) ≤ 2 * (i : Int) + 2) = true := by rw [decide_eq_true_iff]; omega
      have g2 : decide (((2 * i + 1 + t : Nat) : Int) < (l.length : Int)) = true := by rw [decide_eq_true_iff]; omega
      have k1 := (HQ.out.below HB.out).cell (2 * i + 1 + t) hgo.2
      have k2 := (HQ.out.below HB.out).cell lo hlo
      have HV : Hid (lowAt l i (t + 1) = if l.getD (2 * i + 1 + t) 0 < l.getD lo 0 then 2 * i + 1 + t else lo) := Lib.hid (by
        rw [HL.out]
        have : t = 0 ∨ t = 1 := by omega
        rcases this with rfl | rfl
        · exact low_go0 hgo.2
        · exact low_go1 hgo.2)
      generalize l.getD (2 * i + 1 + t) 0 = xb at *
      generalize l.getD lo 0 = xl at *
      have hgb := hgo.2
      have ht1 := hgo.1
      clear hgo
      obtain ⟨p, hp⟩ : ∃ p : Nat, p = 2 * i + 1 + t := ⟨_, rfl⟩
      have HP := Lib.hid hp
      rw [← hp] at k1 g1 g2 hgb HV
      rw [← hp]
      clear hp
      have g3 : (0 : Int) ≤ (p : Int) := by omega
      have g4 : (p : Int) < (l.length : Int) := by omega
      have g5 : (lo : Int) < (l.length : Int) := by omega
      by_cases hx : xb < xl
      · have B1 : decide ((xb : Int) < (xl : Int)) = true := by rw [decide_eq_true_iff]; omega
        go_wp2_with fail
        go_quiet (fail)
        go_wp2_with fail
        go_roundw
        case rel => exact ⟨t + 1, p, by omega, by rw [show 2 * i + 1 + (t + 1) = p + 1 by rw [HP.out]; omega]; go_num, rfl, Lib.hid (by rw [HV.out, if_pos hx]), hgb, Lib.hid (HB.out.trans ((below_draws (Below.refl _ _) _).mono HB.out.size))⟩
        case measure => have := HP.out; simp [intOf]; omega
      · have B1 : decide ((xb : Int) < (xl : Int)) = false := by rw [decide_eq_false_iff_not]; omega
        go_wp2_with fail
        go_quiet (fail)
        go_wp2_with fail
        go_roundw
        case rel => exact ⟨t + 1, lo, by omega, by rw [show 2 * i + 1 + (t + 1) = p + 1 by rw [HP.out]; omega]; go_num, rfl, Lib.hid (by rw [HV.out, if_neg hx]), hlo, Lib.hid (HB.out.trans ((below_draws (Below.refl _ _) _).mono HB.out.size))⟩
        case measure => have := HP.out; simp [intOf]; omega
    · have HE : Hid (lo = lowQ l i) := Lib.hid (by
        rw [HL.out]
        have : t = 0 ∨ t = 1 ∨ t = 2 := by omega
        rcases this with rfl | rfl | rfl
        · show i = lowQ l i
          exact (low_end0 (by omega)).symm
        · show low1 l i = lowQ l i
          exact (low_end1 (by omega)).symm
        · rfl)
      by_cases ht2 : t ≤ 1
      · have g1 : decide (((2 * i + 1 + t : Nat) : Int) ≤ 2 * (i : Int) + 2) = true := by rw [decide_eq_true_iff]; omega
        have g2 : decide (2 * i + 1 + t < l.length) = false := by rw [decide_eq_false_iff_not]; omega
        generalize 2 * i + 1 + t = p at *
        clear hgo
        go_wp2_with fail
        go_ret
        exact ⟨ret_int (by rw [HE.out]), HB.out⟩
      · have g1 : decide (((2 * i + 1 + t : Nat) : Int) ≤ 2 * (i : Int) + 2) = false := by rw [decide_eq_false_iff_not]; omega
        generalize 2 * i + 1 + t = p at *
        clear hgo
        go_wp2_with fail
        go_ret
        exact ⟨ret_int (by rw [HE.out]), HB.out⟩
theorem lower_none (A : Option Addr) (c : Nat) (w : World) :
    Calls Tryz.prog 103 #[.slice A 0 c, .int .i64 0] w (IntMade (0 : Nat) w) := by
  go_enter Tryz.func103, Tryz.ntmps103
  go_wp2_with fail
  go_loopw [5, 6] (fun vl vb wr => vb = .int .i64 1 ∧ vl = .int .i64 0 ∧ Hid (Below w.heap.size w wr)) (fun _ _ _ => 0)
  case atStart => exact ⟨rfl, rfl, Lib.hid (Below.refl _ _)⟩
  case round =>
    obtain ⟨rfl, rfl, HB⟩ := hrel
    go_wp2_with fail
    go_ret
    exact ⟨rfl, HB.out⟩
theorem infoInt : (Tryz.prog.info? 3).map (fun i => (i.zero, i.size, i.bytes)) = some (some (.int .i64 0), 1, 8) := by kernel_rfl
/-- The collector's head, whose fields but the queue are these, and its queue, that holds Q, among the blocks R. -/
def QAt (w : World) (g : Nat) (R : Nat → Prop) (A0 A1 A2 A4 : Value) (Q : List Nat) : Prop :=
  ∃ v, w.heap[g]? = some (.cells #[A0, A1, A2, v, A4] 105 (0, 0)) ∧ w.ownsRow 0 3 1 v Q.length (nums .i64 Q) ∧ ∀ b, v.ownBlock = some b → R b
def QStep (g : Nat) (R : Nat → Prop) (A0 A1 A2 A4 : Value) (Q : List Nat) (w w' : World) : Prop := QAt w' g (fun b => R b ∨ w.heap.size ≤ b) A0 A1 A2 A4 Q ∧ Turned (fun b => b = g ∨ R b) w w'
/-- The row is being put in order. -/
def Ordering (g : Nat) (A0 A1 A2 A4 : Value) (f c n : Nat) (R : Nat → Prop) (w : World) (Q0 Q : List Nat) (wr : World) : Prop :=
  wr.heap[g]? = some (.cells #[A0, A1, A2, .slice (some ⟨f, 0, none⟩) n c, A4] 105 (0, 0)) ∧ Nums wr .i64 3 f c Q ∧ Q.length = n ∧ Q.Perm Q0 ∧ Turned (fun b => b = g ∨ R b) w wr ∧ (R f ∨ w.heap.size ≤ f)
theorem Ordering.draws {g : Nat} {A0 A1 A2 A4 : Value} {f c n : Nat} {R : Nat → Prop} {w : World} {Q0 Q : List Nat} {wr : World} (h : Ordering g A0 A1 A2 A4 f c n R w Q0 Q wr) (k : Nat) : Ordering g A0 A1 A2 A4 f c n R w Q0 Q (wr.drewN k) := by
  obtain ⟨h1, h2, h3, h4, h5, h6⟩ := h
  exact ⟨h1, h2.keep rfl, h3, h4, ⟨h5.os, h5.tape, h5.output, h5.size, h5.block⟩, h6⟩
theorem Ordering.swap {g : Nat} {A0 A1 A2 A4 : Value} {f c n : Nat} {R : Nat → Prop} {w : World} {Q0 Q : List Nat} {wr : World} (h : Ordering g A0 A1 A2 A4 f c n R w Q0 Q wr) (i j : Nat) (hi : i < n) (hj : j < n) :
    Ordering g A0 A1 A2 A4 f c n R w Q0 (swapQ Q i j) ((wr.setCell ⟨f, i, none⟩ (.int .i64 (Q.getD j 0 : Nat))).setCell ⟨f, j, none⟩ (.int .i64 (Q.getD i 0 : Nat))) := by
  obtain ⟨h1, h2, h3, h4, h5, h6⟩ := h
  obtain ⟨cur, hf⟩ := h2.block
  have hne : g ≠ f := blocks_ne h1 hf (by decide)
  have k1 := h2.set i (Q.getD j 0)
  have k2 := k1.1.set j (Q.getD i 0)
  have hR : ∀ x, x = f → (x = g ∨ R x) ∨ w.heap.size ≤ x := by
    rintro x rfl
    rcases h6 with h6 | h6
    · exact .inl (.inr h6)
    · exact .inr h6
  have h7 := (h5.then (Turned.of_grown k1.2) hR).then (Turned.of_grown k2.2) hR
  refine ⟨?_, k2.1, by rw [swapQ_len]; exact h3, (swapQ_perm Q i j (by omega) (by omega)).trans h4, h7, h6⟩
  rw [heap_setCell_other _ _ g _ hne, heap_setCell_other _ _ g _ hne]
  exact h1
/-- The rising's state. -/
def RiseIn (g : Nat) (A0 A1 A2 A4 : Value) (f c n : Nat) (R : Nat → Prop) (w : World) (Q0 : List Nat) (i : Nat) (wr : World) : Prop := ∃ Q, Ordering g A0 A1 A2 A4 f c n R w Q0 Q wr ∧ Rises Q i
def Pushed (g : Nat) (R : Nat → Prop) (A0 A1 A2 A4 : Value) (Q : List Nat) (w : World) (e : Ending) (w' : World) : Prop := e = .returned (.tuple #[]) ∧ ∃ Q', QStep g R A0 A1 A2 A4 Q' w w' ∧ HeapQ Q' ∧ Q'.Perm Q
set_option maxHeartbeats 4000000 in
set_option maxRecDepth 100000 in
theorem push_any (g : Nat) (R : Nat → Prop) (A0 A1 A2 A4 : Value) (Q : List Nat) (a : Nat) (w : World) (h : QAt w g R A0 A1 A2 A4 Q) (hq : HeapQ Q) (hn : Q.length ≤ 65536) :
    Calls Tryz.prog 90 #[.pointer (some ⟨g, 3, none⟩), .int .i64 (a : Int)] w (Pushed g R A0 A1 A2 A4 (Q ++ [a]) w) := by
  obtain ⟨i0, hi0, hz0, hz1, hz2⟩ := info_parts infoInt
  obtain ⟨v, hg, ho, hR⟩ := h
  have c3 : w.cell? ⟨g, 3, none⟩ = some v := by rw [Lib.cell_of_heap hg]; rfl
  have hgl := lt_of_heap hg
  have hown : Hid ((w.alloc (.cells #[.int .i64 (a : Int)] 3)).ownsRow 0 3 1 v Q.length (nums .i64 Q)) := Lib.hid (ho.alloc _)
  have hsrc : Hid (∀ t u, [Value.int IntKind.i64 (a : Int)][t]? = some u → (w.alloc (.cells #[.int .i64 (a : Int)] 3)).cell? ((⟨w.heap.size, 0, none⟩ : Addr).add t) = some u) := Lib.hid (fun t u hu => by
    cases t with
    | zero => rw [show (⟨w.heap.size, 0, none⟩ : Addr).add 0 = ⟨w.heap.size, 0, none⟩ from rfl, Lib.cell_of_heap (heap_alloc_new w _)]; exact hu
    | succ t => simp at hu)
  have hone : Hid (∀ u ∈ [Value.int IntKind.i64 (a : Int)], u.oneCell' = true) := Lib.hid (by intro u hu; obtain rfl : u = Value.int IntKind.i64 (a : Int) := (by simpa using hu); rfl)
  have HG := Lib.hid hg
  have HO := Lib.hid ho
  have HR := Lib.hid hR
  clear hg ho hR
  go_enter Tryz.func90, Tryz.ntmps90
  go_wp2_with (at_builtin; refine wpList_append_own_at _ rfl (.tmp 10) (.tmp 12) 103 rfl 0 3 i0 _ 1 8 Tryz.underlying103 hi0 hz0 hz1 hz2 rfl (by decide) _ _ _ rfl hown.out ⟨w.heap.size, 0, none⟩ 1 1 [.int .i64 (a : Int)] rfl rfl hsrc.out hone.out (by unfold maxLen; omega) (by omega) (Nat.zero_le _) ?_)
  intro v1 w4 hown1 hgr1 hnn1 hat1
  obtain ⟨f1, k1, rfl⟩ : ∃ f1 k1, v1 = .slice (some ⟨f1, 0, none⟩) (Q.length + 1) k1 := by
    rcases hown1.2 with ⟨h, _⟩ | ⟨g', k', _, h, _⟩
    · exact (hnn1 h).elim
    · exact ⟨g', k', h⟩
  have hgv : v.ownBlock ≠ some g := fun hx => by
    obtain ⟨cur, hc⟩ := own_type HO.out g hx
    exact blocks_ne hc HG.out (by decide) rfl
  have hg4 : w4.heap[g]? = some (.cells #[A0, A1, A2, v, A4] 105 (0, 0)) := by
    rw [hgr1.block g (by simp; omega) (fun e => hgv e.symm), Below.heap_alloc w _ g hgl, HG.out]
  have f3 : w4.cell? ⟨g, 3, none⟩ = some v := by rw [Lib.cell_of_heap hg4]; rfl
  have f4 : w4.frozen? ⟨g, 3, none⟩ = false := Lib.frozen_of_heap hg4 3
  have HO1 : Hid (Ordering g A0 A1 A2 A4 f1 k1 (Q.length + 1) R w (Q ++ [a]) (Q ++ [a]) (w4.setCell ⟨g, 3, none⟩ (.slice (some ⟨f1, 0, none⟩) (Q.length + 1) k1))) := Lib.hid (by
    have hRv : ∀ x, v.ownBlock = some x → R x := HR.out
    have hf : R f1 ∨ w.heap.size ≤ f1 := by
      rcases hat1 with h | h
      · exact .inl (hRv f1 h.symm)
      · have h := Option.some.inj h
        simp at h
        exact .inr (by omega)
    have hb1 : Turned (fun b => b = g ∨ R b) w w4 := by
      have h1 : Turned (fun b => b = g ∨ R b) w (w.alloc (.cells #[.int .i64 (a : Int)] 3)) := (Turned.refl _ w).alloc _
      refine ⟨hgr1.os.trans h1.os, hgr1.tape.trans h1.tape, hgr1.output.trans h1.output, Nat.le_trans h1.size hgr1.size, fun k hk hn => ?_⟩
      rw [hgr1.block k (by simp; omega) (fun e => hn (.inr (hRv k e.symm)))]
      exact h1.block k hk hn
    have hne : f1 ≠ g := by
      obtain ⟨cur, hc⟩ := own_type hown1 f1 rfl
      exact blocks_ne hc hg4 (by decide)
    refine ⟨?_, ?_, by simp, List.Perm.refl _, hb1.setCell _ _ (.inl rfl), hf⟩
    · rw [heap_setCell_same w4 g 3 _ _ _ hg4]; rfl
    · have h2 := own_keep (w' := w4.setCell ⟨g, 3, none⟩ (.slice (some ⟨f1, 0, none⟩) (Q.length + 1) k1)) hown1 (fun x hx => heap_setCell_other w4 _ x _ (by
        have : f1 = x := Option.some.inj hx
        rw [← this]; exact hne))
      rw [nums_snoc] at h2
      unfold Nums
      rw [show (Q ++ [a]).length = Q.length + 1 by simp]
      exact h2)
  have HRI : Hid (Rises (Q ++ [a]) Q.length) := Lib.hid (rises_start hq a)
  clear hown1 hgr1 hnn1 hat1 hg4 hown hsrc hone hgv HG HO HR c3
  have hn1 : Q.length + 1 ≤ 65537 := by omega
  generalize Q ++ [a] = Q1 at *
  generalize Q.length = n at *
  go_wp2_with fail
  generalize w4.setCell ⟨g, 3, none⟩ (.slice (some ⟨f1, 0, none⟩) (n + 1) k1) = w5 at *
  go_loopw [5] (fun vi wr => ∃ (i : Nat) (Q' : List Nat), i ≤ n ∧ vi = .int .i64 i ∧ Hid (Ordering g A0 A1 A2 A4 f1 k1 (n + 1) R w Q1 Q' wr) ∧ Hid (Rises Q' i)) (fun vi _ => (intOf vi).toNat)
  case atStart => exact ⟨n, Q1, Nat.le_refl _, rfl, HO1, HRI⟩
  case round =>
    obtain ⟨i, Q2, hin, rfl, HO2, HR2⟩ := hrel
    clear HO1 HRI
    have hlen : Q2.length = n + 1 := HO2.out.2.2.1
    have HLN := Lib.hid hlen
    by_cases hi0 : i = 0
    · have HE : Hid (HeapQ Q2) := Lib.hid (rises_done HR2.out (.inl hi0))
      have g1 : decide (0 < (i : Int)) = false := by rw [decide_eq_false_iff_not]; omega
      have g1' : decide (0 < i) = false := by rw [decide_eq_false_iff_not]; omega
      clear hi0 hlen
      go_wp2_with fail
      go_quiet (fail)
      go_wp2_with fail
      go_end0
      obtain ⟨q1, q2, q3, q4, q5, q6⟩ := (HO2.out.draws _)
      refine ⟨rfl, Q2, ⟨⟨_, q1, ?_, fun b hb => ?_⟩, q5⟩, HE.out, q4⟩
      · rw [← q3]; exact q2
      · obtain rfl : f1 = b := Option.some.inj hb
        exact q6
    · obtain ⟨p, hp⟩ : ∃ p : Nat, p = (i - 1) / 2 := ⟨_, rfl⟩
      have hpn : p < i := by omega
      have k1' := HO2.out.2.1.cell i (by omega)
      have k2' := HO2.out.2.1.cell p (by omega)
      have HP := Lib.hid hp
      have g1 : decide (0 < (i : Int)) = true := by rw [decide_eq_true_iff]; omega
      have g1' : 0 < i := by omega
      have E0 : ((i : Int) - 1) / 2 = (p : Int) := by omega
      have E1 : IntKind.i64.wrap ((i : Int) - 1) = (i : Int) - 1 := by rw [IntKind.wrap_i64]; omega
      have E2 : ((i : Int) - 1).tdiv 2 = (p : Int) := by rw [Int.tdiv_eq_ediv_of_nonneg (by omega)]; exact E0
      have E3 : IntKind.i64.wrap (p : Int) = (p : Int) := by rw [IntKind.wrap_i64]; omega
      have g3 : (p : Int) < (n : Int) + 1 := by omega
      have g4 : (i : Int) < (n : Int) + 1 := by omega
      have g5 : (0 : Int) ≤ (p : Int) := by omega
      have g6 : (0 : Int) ≤ (i : Int) := by omega
      by_cases hx : Q2.getD i 0 < Q2.getD p 0
      · have HS : Hid (Rises (swapQ Q2 i p) p) := Lib.hid (by rw [hp]; exact rises_step HR2.out (by omega) (by rw [← hp]; exact hx))
        obtain ⟨xi, hxi⟩ : ∃ xi, Q2.getD i 0 = xi := ⟨_, rfl⟩
        obtain ⟨xp, hxp⟩ : ∃ xp, Q2.getD p 0 = xp := ⟨_, rfl⟩
        have HXI := Lib.hid hxi
        have HXP := Lib.hid hxp
        rw [hxi] at k1' hx
        rw [hxp] at k2' hx
        clear hxi hxp
        have B1 : decide (xi < xp) = true := by rw [decide_eq_true_iff]; exact hx
        clear hx hi0 hp hlen
        go_wp2_with fail
        go_quiet (fail)
        go_wp2_with fail
        generalize hwq : wr.drewN _ = wq at *
        have HO3 : Hid (Ordering g A0 A1 A2 A4 f1 k1 (n + 1) R w Q1 Q2 wq) := Lib.hid (by rw [← hwq]; exact HO2.out.draws _)
        have m1 : wq.cell? ⟨f1, i, none⟩ = some (.int .i64 (xi : Int)) := by rw [← hwq]; exact k1'
        have m2 : wq.cell? ⟨f1, p, none⟩ = some (.int .i64 (xp : Int)) := by rw [← hwq]; exact k2'
        have m3 : wq.frozen? ⟨f1, i, none⟩ = false := HO3.out.2.1.frozen i
        have m4 : wq.frozen? ⟨f1, p, none⟩ = false := HO3.out.2.1.frozen p
        have E4 : IntKind.i64.wrap (i : Int) = (i : Int) := by rw [IntKind.wrap_i64]; omega
        clear hwq k1' k2' HO2 B1 g1
        have HW := Lib.hid (HO3.out.swap i p (by omega) (by omega))
        rw [HXI.out, HXP.out] at HW
        clear HXI HXP
        go_region
        clear E4
        go_wp2_with fail
        go_roundw
        case rel => exact ⟨p, _, by omega, rfl, Lib.hid (HW.out.draws 1), HS⟩
        case measure => simp [intOf]; omega
      · have HE : Hid (HeapQ Q2) := Lib.hid (rises_done HR2.out (.inr (by rw [← hp]; omega)))
        generalize Q2.getD i 0 = xi at *
        generalize Q2.getD p 0 = xp at *
        have B1 : decide (xi < xp) = false := by rw [decide_eq_false_iff_not]; exact hx
        clear hx hi0 hp hlen
        go_wp2_with fail
        go_quiet (fail)
        go_wp2_with fail
        go_end0
        obtain ⟨q1, q2, q3, q4, q5, q6⟩ := (HO2.out.draws _)
        refine ⟨rfl, Q2, ⟨⟨_, q1, ?_, fun b hb => ?_⟩, q5⟩, HE.out, q4⟩
        · rw [← q3]; exact q2
        · obtain rfl : f1 = b := Option.some.inj hb
          exact q6
theorem Ordering.below {g : Nat} {A0 A1 A2 A4 : Value} {f c n : Nat} {R : Nat → Prop} {w : World} {Q0 Q : List Nat} {wr w' : World} (h : Ordering g A0 A1 A2 A4 f c n R w Q0 Q wr) (hb : Below wr.heap.size wr w') : Ordering g A0 A1 A2 A4 f c n R w Q0 Q w' := by
  obtain ⟨h1, h2, h3, h4, h5, h6⟩ := h
  exact ⟨(hb.block g (lt_of_heap h1)).trans h1, h2.below hb, h3, h4, h5.trans (Turned.of_below hb), h6⟩
def Popped (g : Nat) (R : Nat → Prop) (A0 A1 A2 A4 : Value) (Q : List Nat) (w : World) (e : Ending) (w' : World) : Prop := e = .returned (.int .i64 (Q.getD 0 0 : Nat)) ∧ ∃ Q', QStep g R A0 A1 A2 A4 Q' w w' ∧ HeapQ Q' ∧ (Q.getD 0 0 :: Q').Perm Q
theorem lower_at (g : Nat) (A0 A1 A2 A4 : Value) (f c n : Nat) (R : Nat → Prop) (w : World) (Q0 Q : List Nat) (wr : World) (i : Nat) (h : Ordering g A0 A1 A2 A4 f c n R w Q0 Q wr) (hi : i < n ∨ (i = 0 ∧ n = 0)) (hn : n ≤ 65536) :
    Calls Tryz.prog 103 #[.slice (some ⟨f, 0, none⟩) n c, .int .i64 (i : Int)] wr (IntMade (lowQ Q i : Nat) wr) := by
  obtain ⟨_, h2, h3, _⟩ := h
  rcases hi with hi | ⟨rfl, rfl⟩
  · have := lower_any f c Q i wr h2 (by omega) (by omega)
    rw [h3] at this
    exact this
  · obtain rfl : Q = [] := List.eq_nil_of_length_eq_zero h3
    exact lower_none _ c wr
set_option maxHeartbeats 4000000 in
set_option maxRecDepth 100000 in
theorem pop_any (g : Nat) (R : Nat → Prop) (A0 A1 A2 A4 : Value) (Q : List Nat) (n : Nat) (w : World) (h : QAt w g R A0 A1 A2 A4 Q) (hq : HeapQ Q) (hn : n ≤ 65536) (hlen : Q.length = n + 1) :
    Calls Tryz.prog 99 #[.pointer (some ⟨g, 3, none⟩)] w (Popped g R A0 A1 A2 A4 Q w) := by
  obtain ⟨v, hg, ho, hR⟩ := h
  obtain ⟨f, c, rfl⟩ : ∃ f c, v = .slice (some ⟨f, 0, none⟩) (n + 1) c := by
    rcases ho.2 with ⟨_, he⟩ | ⟨f, c, _, he, _⟩
    · have := nums_len .i64 Q
      rw [he] at this
      simp at this
      omega
    · rw [hlen] at he; exact ⟨f, c, he⟩
  have hN : Nums w .i64 3 f c Q := by unfold Nums; rw [hlen]; rw [hlen] at ho; exact ho
  have c3 : w.cell? ⟨g, 3, none⟩ = some (.slice (some ⟨f, 0, none⟩) (n + 1) c) := by rw [Lib.cell_of_heap hg]; rfl
  have c4 : w.frozen? ⟨g, 3, none⟩ = false := Lib.frozen_of_heap hg 3
  have k0 := hN.cell 0 (by omega)
  have kl := hN.cell n (by omega)
  have kf := hN.frozen 0
  have hcap := hN.cap.1
  rw [hlen] at hcap
  have hne : g ≠ f := by
    obtain ⟨cur, hc⟩ := hN.block
    exact blocks_ne hg hc (by decide)
  have HX : Hid (∃ x, x = Q.getD 0 0) := Lib.hid ⟨_, rfl⟩
  obtain ⟨x, hx⟩ := HX.out
  obtain ⟨y, hy⟩ : ∃ y, y = Q.getD n 0 := ⟨_, rfl⟩
  rw [← hx] at k0
  rw [← hy] at kl
  have HO : Hid (Ordering g A0 A1 A2 A4 f c n R w ((Q.set 0 y).take n) ((Q.set 0 y).take n) ((w.setCell ⟨f, 0, none⟩ (.int .i64 (y : Int))).setCell ⟨g, 3, none⟩ (.slice (some ⟨f, 0, none⟩) n c))) := Lib.hid (by
    have h1 := hN.set 0 y
    have hg1 : (w.setCell ⟨f, 0, none⟩ (.int .i64 (y : Int))).heap[g]? = some (.cells #[A0, A1, A2, .slice (some ⟨f, 0, none⟩) (n + 1) c, A4] 105 (0, 0)) := by
      rw [heap_setCell_other _ _ g _ hne]; exact hg
    refine ⟨?_, ?_, by simp; omega, List.Perm.refl _, ((Turned.refl _ w).setCell _ _ (.inr (hR f rfl))).setCell _ _ (.inl rfl), .inl (hR f rfl)⟩
    · rw [heap_setCell_same _ g 3 _ _ _ hg1]; rfl
    · have h2 : Nums ((w.setCell ⟨f, 0, none⟩ (.int .i64 (y : Int))).setCell ⟨g, 3, none⟩ (.slice (some ⟨f, 0, none⟩) n c)) .i64 3 f c (Q.set 0 y) := h1.1.keep (heap_setCell_other _ _ f _ (Ne.symm hne))
      unfold Nums at h2
      rw [List.length_set, hlen] at h2
      have h3 := own_cut h2 n (by omega)
      unfold Nums
      rw [show ((Q.set 0 y).take n).length = n by simp; omega, ← nums_take]
      rw [Nat.mul_one] at h3
      exact h3)
  have HS : Hid (Sinks ((Q.set 0 y).take n) 0) := Lib.hid (by
    have := sinks_start hq (by omega)
    rw [hlen, Nat.add_sub_cancel, ← hy] at this
    exact this)
  have HP : Hid ((x :: (Q.set 0 y).take n).Perm Q) := Lib.hid (by
    have := pop_perm (l := Q) (by omega)
    rw [hlen, Nat.add_sub_cancel, ← hy, ← hx] at this
    exact this)
  have HXQ := Lib.hid hx
  have hgl := lt_of_heap hg
  clear hg ho hR hN hq hx hy HX hlen
  go_enter Tryz.func99, Tryz.ntmps99
  generalize (Q.set 0 y).take n = Q1 at *
  go_upto_region 8 with fail
  generalize (w.setCell ⟨f, 0, none⟩ (.int .i64 (y : Int))).setCell ⟨g, 3, none⟩ (.slice (some ⟨f, 0, none⟩) n c) = w5 at *
  clear c3 c4 k0 kl kf
  go_wp2_with fail
  refine (lower_at _ _ _ _ _ _ _ _ _ _ _ _ _ 0 HO.out (by omega) hn).mono ?_
  rintro e w6 ⟨rfl, hb6⟩
  have HO6 := Lib.hid (HO.out.below hb6)
  clear hb6 HO
  go_wp2_with fail
  go_loopw [6, 7] (fun vi vl wr => ∃ (i : Nat) (Q' : List Nat), (i < n ∨ (i = 0 ∧ n = 0)) ∧ vi = .int .i64 i ∧ vl = .int .i64 (lowQ Q' i : Nat) ∧ Hid (Ordering g A0 A1 A2 A4 f c n R w Q1 Q' wr) ∧ Hid (Sinks Q' i)) (fun vi _ _ => n - (intOf vi).toNat)
  case atStart => exact ⟨0, Q1, by omega, rfl, rfl, HO6, HS⟩
  case round =>
    obtain ⟨i, Q2, hin, rfl, rfl, HO2, HS2⟩ := hrel
    clear HO6 HS
    have hlen : Q2.length = n := HO2.out.2.2.1
    have HLN := Lib.hid hlen
    by_cases hd : lowQ Q2 i = i
    · have HE : Hid (HeapQ Q2) := Lib.hid (sinks_done HS2.out hd)
      rw [hd]
      clear hd hlen
      have B1 : ((i : Int) != (i : Int)) = false := by simp
      go_wp2_with fail
      go_ret
      obtain ⟨q1, q2, q3, q4, q5, q6⟩ := HO2.out
      refine ⟨ret_int (by rw [HXQ.out]), Q2, ⟨⟨_, q1, ?_, fun b hb => ?_⟩, q5⟩, HE.out, ?_⟩
      · rw [← q3]; exact q2
      · obtain rfl : f = b := Option.some.inj hb
        exact q6
      · rw [← HXQ.out]
        exact (q4.cons x).trans HP.out
    · have hi : i < n := by
        rcases hin with hi | ⟨rfl, rfl⟩
        · exact hi
        · obtain rfl : Q2 = [] := List.eq_nil_of_length_eq_zero hlen
          exact absurd rfl hd
      obtain ⟨s1, s2, s3⟩ := sinks_step HS2.out (by omega) hd
      have B1 : ((lowQ Q2 i : Int) != (i : Int)) = true := by rw [bne_iff_ne]; omega
      have k1 := HO2.out.2.1.cell i (by omega)
      have k2 := HO2.out.2.1.cell (lowQ Q2 i) (by omega)
      have m3 := HO2.out.2.1.frozen i
      have m4 := HO2.out.2.1.frozen (lowQ Q2 i)
      have HW := Lib.hid (HO2.out.swap i (lowQ Q2 i) hi (by omega))
      have HS3 := Lib.hid s3
      clear s3 hd
      generalize lowQ Q2 i = lo at *
      obtain ⟨xi, hxi⟩ : ∃ xi, Q2.getD i 0 = xi := ⟨_, rfl⟩
      obtain ⟨xp, hxp⟩ : ∃ xp, Q2.getD lo 0 = xp := ⟨_, rfl⟩
      rw [hxi] at k1 HW
      rw [hxp] at k2 HW
      have g3 : (lo : Int) < (n : Int) := by omega
      have g4 : (i : Int) < (n : Int) := by omega
      have g5 : (0 : Int) ≤ (lo : Int) := by omega
      have g6 : (0 : Int) ≤ (i : Int) := by omega
      have E3 : IntKind.i64.wrap (lo : Int) = (lo : Int) := by rw [IntKind.wrap_i64]; omega
      have E4 : IntKind.i64.wrap (i : Int) = (i : Int) := by rw [IntKind.wrap_i64]; omega
      clear hxi hxp hlen HO2
      go_wp2_with fail
      go_region
      clear E3 E4
      go_wp2_with fail
      refine (lower_at _ _ _ _ _ _ _ _ _ _ _ _ _ lo (HW.out.draws 1) (by omega) hn).mono ?_
      rintro e w7 ⟨rfl, hb7⟩
      have HO7 := Lib.hid ((HW.out.draws 1).below hb7)
      clear hb7
      go_wp2_with fail
      go_roundw
      case rel => exact ⟨lo, _, by omega, rfl, rfl, HO7, HS3⟩
      case measure => simp [intOf]; omega
end Go.Proofs.YtdkbgdjkdalalaaGreatDoor
