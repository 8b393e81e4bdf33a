/-
  The document's own store (marquetryref04): how it lies in memory, what its calls do, in the terms of the program's.
  The document's own store: Pick, Set, Alloc, New.
  An object is refused only if what the roots reach, and its size for each of these and one more, are all cells but one. Plain mathematics, for the law StoreFull.
  A store, the document's own, eight registers and the step at hand side by side.
-/
import Derived.Test.YtdkbgdjkdalalaaGreatDoorZKAll
import Derived.Test.YtdkbgdjkdalalaaGreatDoorZSAll
import Derived.Deep.RegionHeld3
namespace Go.Proofs.YtdkbgdjkdalalaaGreatDoor
open Go.RowKit
def RSt (pr k r m : Nat) (y : SS) (w : World) (U : Nat → Prop) : Prop := U pr ∧ ∃ V, KAt w k r V m y.s ∧ (∀ b, V b → U b ∧ b ≠ pr) ∧ w.heap[pr]? = some (.cells #[.pointer (some ⟨k, 0, none⟩), .int .i64 (y.cy : Int)] 51 (0, 0))
theorem kat_keep {w w' : World} {k r m : Nat} {U : Nat → Prop} {s : GS} (h : KAt w k r U m s) (hz : w.heap.size ≤ w'.heap.size) (hk : ∀ b, b < w.heap.size → U b → w'.heap[b]? = w.heap[b]?) : KAt w' k r U m s := by
  obtain ⟨S, vG, vB, h⟩ := h
  exact ⟨S, vG, vB, h.heap.keep fun b hl hS => hk b hl (h.inU b hS), (hk k (lt_of_heap h.block) h.kU).trans h.block, ⟨own_keep h.greys.1 fun x hx => hk x (World.ownsRow.lt h.greys.1 x hx).2 (h.greys.2 x hx).1, h.greys.2⟩, ⟨own_keep h.blacks.1 fun x hx => hk x (World.ownsRow.lt h.blacks.1 x hx).2 (h.blacks.2 x hx).1, h.blacks.2⟩, h.inU, h.kU, h.kS, fun b hb => Nat.lt_of_lt_of_le (h.sb b hb) hz, h.inv, h.few⟩
theorem rst_keeps (pr k r m : Nat) (y : SS) : Keeps (RSt pr k r m y) := fun _ _ _ ⟨hU, V, hk, hV, hh⟩ hz hb => ⟨hU, V, kat_keep hk hz fun b hl hv => hb b hl (hV b hv).1, hV, (hb pr (lt_of_heap hh) hU).trans hh⟩
def RGo (pr k r m : Nat) (y : SS) (U : Nat → Prop) (w w' : World) : Prop := RSt pr k r m y w' (fun b => U b ∨ w.heap.size ≤ b) ∧ Turned U w w'
theorem RSt.mono {pr k r m : Nat} {y : SS} {w : World} {U V : Nat → Prop} (h : RSt pr k r m y w U) (hV : ∀ b, U b → V b) : RSt pr k r m y w V := by
  obtain ⟨hU, X, hk, hx, hh⟩ := h
  exact ⟨hV _ hU, X, hk, fun b hb => ⟨hV b (hx b hb).1, (hx b hb).2⟩, hh⟩
theorem RGo.then {pr k r m : Nat} {x y : SS} {U : Nat → Prop} {a b c : World} (h : RGo pr k r m x U a b) (j : RGo pr k r m y (fun b => U b ∨ a.heap.size ≤ b) b c) : RGo pr k r m y U a c := by
  have hz := h.2.size
  refine ⟨j.1.mono fun b hb => ?_, h.2.then j.2 fun i hi => hi⟩
  rcases hb with hb | hb
  · exact hb
  · exact .inr (Nat.le_trans hz hb)
theorem RGo.stay {pr k r m : Nat} {y : SS} {U : Nat → Prop} {w : World} (h : RSt pr k r m y w U) : RGo pr k r m y U w w := ⟨h.mono fun _ hb => .inl hb, Turned.refl _ _⟩
theorem RGo.quiet {pr k r m : Nat} {y : SS} {U : Nat → Prop} {w w' : World} (h : RSt pr k r m y w U) (hb : Below w.heap.size w w') : RGo pr k r m y U w w' := ⟨(rst_keeps pr k r m y w w' U h hb.size fun b hl _ => hb.block b hl).mono fun _ hb => .inl hb, Turned.of_below hb⟩
theorem RSt.head {pr k r m : Nat} {y : SS} {w : World} {U : Nat → Prop} (h : RSt pr k r m y w U) : w.cell? ⟨pr, 0, none⟩ = some (.pointer (some ⟨k, 0, none⟩)) ∧ w.cell? ⟨pr, 1, none⟩ = some (.int .i64 (y.cy : Int)) ∧ w.frozen? ⟨pr, 1, none⟩ = false ∧ w.cell? ⟨k, 1, none⟩ = some (.int .i64 (y.s.ph : Int)) ∧ w.cell? ⟨k, 0, none⟩ = some (.pointer (some ⟨r, 0, none⟩)) := by
  obtain ⟨_, V, hk, _, hh⟩ := h
  exact ⟨by rw [Lib.cell_of_heap hh]; rfl, by rw [Lib.cell_of_heap hh]; rfl, Lib.frozen_of_heap hh 1, hk.cell1, hk.head⟩
theorem RSt.inv {pr k r m : Nat} {y : SS} {w : World} {U : Nat → Prop} (h : RSt pr k r m y w U) : GInv m y.s ∧ m ≤ 65536 := by
  obtain ⟨_, V, hk, _, hh⟩ := h
  exact ⟨hk.inv, hk.few⟩
/-- The count is set. -/
theorem RSt.count {pr k r m : Nat} {y : SS} {w : World} {U : Nat → Prop} (h : RSt pr k r m y w U) (c : Nat) : RGo pr k r m ⟨y.s, c⟩ U w (w.setCell ⟨pr, 1, none⟩ (.int .i64 (c : Int))) := by
  obtain ⟨hU, V, hk, hV, hh⟩ := h
  have hz : (w.setCell ⟨pr, 1, none⟩ (.int .i64 (c : Int))).heap.size = w.heap.size := by simp [World.setCell]
  have ho : ∀ b, b ≠ pr → (w.setCell ⟨pr, 1, none⟩ (.int .i64 (c : Int))).heap[b]? = w.heap[b]? := fun b hne => heap_setCell_other w _ b _ hne
  refine ⟨⟨.inl hU, V, kat_keep hk (by omega) fun b _ hv => ho b (hV b hv).2, fun b hb => ⟨.inl (hV b hb).1, (hV b hb).2⟩, ?_⟩, (Turned.refl _ w).setCell ⟨pr, 1, none⟩ _ hU⟩
  rw [heap_setCell_same w pr 1 _ _ _ hh]; rfl
theorem rgo_of {pr k r m : Nat} {y : SS} {t : GS} {U V : Nat → Prop} {w w' : World} (hU : U pr) (hV : ∀ b, V b → U b ∧ b ≠ pr) (hh : w.heap[pr]? = some (.cells #[.pointer (some ⟨k, 0, none⟩), .int .i64 (y.cy : Int)] 51 (0, 0))) (hs : KStep k r V m t w w') : RGo pr k r m ⟨t, y.cy⟩ U w w' := by
  refine ⟨⟨.inl hU, _, hs.1, ?_, (hs.2.block pr (lt_of_heap hh) fun hv => (hV pr hv).2 rfl).trans hh⟩, hs.2.mono fun b hb => (hV b hb).1⟩
  rintro b (hv | hb)
  · exact ⟨.inl (hV b hv).1, (hV b hv).2⟩
  · exact ⟨.inr hb, by have := lt_of_heap hh; omega⟩
theorem vals_sub {m : Nat} {s t : GS} (hi : GInv m t) (hv : Vals s.L) (hf : ∀ a o, findOb t.L a = some o → findOb s.L a = some o) : Vals t.L := fun o ho x hx => by
  have h1 := find_of_mem hi.lies ho
  exact hv o (find_mem (hf _ _ h1)).1 x hx
theorem vals_run {m : Nat} {s : GS} (hi : GInv m s) (hv : Vals s.L) (K : Nat) : Vals (s.run K).L := by
  induction K with
  | zero => exact hv
  | succ K ih => exact vals_sub ((hi.run K).step) ih fun _ _ ho => step_find (hi.run K) ho
theorem vals_done {m : Nat} {s : GS} (hi : GInv m s) (hv : Vals s.L) : Vals s.done.L := by
  unfold GS.done
  split
  · exact vals_run hi hv _
  · exact hv
theorem begin_L (s : GS) (xs : List Nat) : (s.begin xs).2.L = s.L := by
  unfold GS.begin
  split
  · exact (shades_same _ _).1
  · rfl
theorem vals_begin {s : GS} (hv : Vals s.L) (xs : List Nat) : Vals (s.begin xs).2.L := by rw [begin_L]; exact hv
set_option maxHeartbeats 400000 in
theorem rref_any (a : Nat) (ha : a ≤ 65536) (w : World) : Calls Tryz.prog 36 #[.int .i64 (a : Int)] w fun e w' => e = .returned (.int .u64 ((2 * a : Nat) : Int)) ∧ w = w' := by
  have g1 : decide ((a : Int) < 0) = false := decide_eq_false (by omega)
  have g2 : decide (2147483647 < (a : Int)) = false := decide_eq_false (by omega)
  go_enter Tryz.func36, Tryz.ntmps36
  go_wp2_with fail
  go_ret
  exact ⟨by rw [show ((2 * a : Nat) : Int) = (a : Int) * 2 by omega]; rfl, rfl⟩
section
variable (pr k r m : Nat) (y : SS) (U X : Nat → Prop) (w : World) (h : RSt pr k r m y w U)
include h
theorem zk_Alloc (kd n : Int) : Calls Tryz.prog 35 #[.pointer (some ⟨k, 0, none⟩), .int .i64 kd, .int .i64 n] w (fun e w' => e = .returned (.tuple #[.int .i64 (y.s.alloc m kd n).1, .int .i64 (y.s.alloc m kd n).2.1]) ∧ RGo pr k r m ⟨(y.s.alloc m kd n).2.2, y.cy⟩ U w w') := by
  obtain ⟨hU, V, hk, hV, hh⟩ := h
  exact (kalloc_any k r m V y.s w hk kd n).mono fun e w' ⟨he, hs⟩ => ⟨he, rgo_of hU hV hh hs⟩
theorem zk_Begin (A : Option Addr) (n c : Nat) (xs : List Nat) (hx : WordsAt w X A n xs) (hX : ∀ b, X b → ¬ U b) (hn : n ≤ 9223372036854775807) : Calls Tryz.prog 37 #[.pointer (some ⟨k, 0, none⟩), .slice A n c] w (fun e w' => e = .returned (.int .i64 (y.s.begin xs).1) ∧ RGo pr k r m ⟨(y.s.begin xs).2, y.cy⟩ U w w') := by
  obtain ⟨hU, V, hk, hV, hh⟩ := h
  exact (kbegin_any k r m V X y.s w hk A n c xs hx (fun b hb hv => hX b hb (hV b hv).1) hn).mono fun e w' ⟨he, hs⟩ => ⟨he, rgo_of hU hV hh hs⟩
theorem zk_Step (hv : Vals y.s.L) : Calls Tryz.prog 47 #[.pointer (some ⟨k, 0, none⟩)] w (fun e w' => e = .returned (.bool y.s.step.1) ∧ RGo pr k r m ⟨y.s.step.2, y.cy⟩ U w w') := by
  obtain ⟨hU, V, hk, hV, hh⟩ := h
  exact (kstep_any k r m V y.s w hk hv).mono fun e w' ⟨he, hs⟩ => ⟨he, rgo_of hU hV hh hs⟩
theorem zk_Finish (hv : Vals y.s.L) : Calls Tryz.prog 38 #[.pointer (some ⟨k, 0, none⟩)] w (fun e w' => ∃ K : Nat, e = .returned (.int .i64 (K : Int)) ∧ RGo pr k r m ⟨y.s.done, y.cy⟩ U w w') := by
  obtain ⟨hU, V, hk, hV, hh⟩ := h
  refine (kfinish_any k r m V y.s w hk hv).mono ?_
  rintro e w' ⟨K, rfl, hK, hs⟩
  rw [← done_is hK] at hs
  exact ⟨K, rfl, rgo_of hU hV hh hs⟩
theorem zk_Write (a i : Int) (x : Nat) (hv : Vals y.s.L) : Calls Tryz.prog 41 #[.pointer (some ⟨k, 0, none⟩), .int .i64 a, .int .i64 i, .int .u64 (x : Int)] w (fun e w' => e = .returned (.int .i64 (y.s.write a i x).1) ∧ RGo pr k r m ⟨(y.s.write a i x).2, y.cy⟩ U w w') := by
  obtain ⟨hU, V, hk, hV, hh⟩ := h
  exact (kwrite_any k r m V y.s w hk a i x hv).mono fun e w' ⟨he, hs⟩ => ⟨he, rgo_of hU hV hh hs⟩
theorem zk_Reaches (x : Nat) (hx : x < 18446744073709551616) : Calls Tryz.prog 42 #[.pointer (some ⟨r, 0, none⟩), .int .u64 (x : Int)] w (OneSame (reachW y.s.L x : Nat) w) := by
  have hm := h.inv
  obtain ⟨hU, V, hk, hV, hh⟩ := h
  obtain ⟨S, hr⟩ := hk.heapAt
  exact reaches_any r S m y.s.L x w hr hm.1.lies (lies_len hm.1.lies hm.2) hx
end
def ZOne (pr k r m : Nat) (v : Value) (y : SS) (U : Nat → Prop) (w : World) (e : Ending) (w' : World) : Prop := e = .returned v ∧ RGo pr k r m y U w w'
def ZTwo (pr k r m : Nat) (q : Nat × Int × SS) (U : Nat → Prop) (w : World) (e : Ending) (w' : World) : Prop := e = .returned (.tuple #[.int .u64 (q.1 : Int), .int .i64 q.2.1]) ∧ RGo pr k r m q.2.2 U w w'
theorem write_reach {m : Nat} {s : GS} (hi : GInv m s) (v : Nat) (i : Int) (x : Nat) : s.write (reachW s.L v : Nat) i x = s.write (addrW v : Nat) i x := by
  unfold reachW
  split
  · rfl
  · rename_i hn
    have h0 : ¬ IsIn s.L 0 := fun hx => by have := (isIn_range hi.lies hx).1; omega
    have h1 : hGet s.L ((0 : Nat) : Int) i = (0, 7) := hGet_no i (.inr (not_isIn.1 h0))
    have h2 : hGet s.L (addrW v : Nat) i = (0, 7) := hGet_no i (.inr (by rw [Int.toNat_natCast]; exact not_isIn.1 hn))
    unfold GS.write
    rw [h1, h2, if_neg (by decide), if_neg (by decide)]
theorem done_idle {s : GS} (h : s.ph = 0) : s.done = s := done_is (K := 0) ⟨h, fun j hj => by omega⟩
theorem finish_idle {x : SS} (h : x.s.ph = 0) : x.finish = x := by unfold SS.finish; rw [done_idle h, if_pos h]
theorem finish_busy {x : SS} (h : x.s.ph ≠ 0) : x.finish = ⟨x.s.done, x.cy + 1⟩ := by unfold SS.finish; rw [if_neg h]
/-- The store ahead of each try. -/
noncomputable def tryS (m : Nat) (y : SS) (kd n : Int) (xs : List Nat) : Nat → SS
  | 0 => y
  | 1 => y.second m kd n
  | _ => (y.second m kd n).third m kd n xs
theorem try_end {m : Nat} {y : SS} {kd n : Int} {xs : List Nat} {t : Nat} (ht : t ≤ 2) (hf : ∀ j, j < t → ((tryS m y kd n xs j).s.alloc m kd n).2.1 = 6) (he : ((tryS m y kd n xs t).s.alloc m kd n).2.1 ≠ 6 ∨ t = 2) : y.alloc m kd n xs = (tryS m y kd n xs t).put ((tryS m y kd n xs t).s.alloc m kd n) := by
  unfold SS.alloc
  rcases (by omega : t = 0 ∨ t = 1 ∨ t = 2) with rfl | rfl | rfl
  · have h0 : (y.s.alloc m kd n).2.1 ≠ 6 := he.resolve_right (by decide)
    rw [if_neg h0]; rfl
  · have h0 : (y.s.alloc m kd n).2.1 = 6 := hf 0 (by decide)
    have h1 : ((y.second m kd n).s.alloc m kd n).2.1 ≠ 6 := he.resolve_right (by decide)
    rw [if_pos h0, if_neg h1]; rfl
  · have h0 : (y.s.alloc m kd n).2.1 = 6 := hf 0 (by decide)
    have h1 : ((y.second m kd n).s.alloc m kd n).2.1 = 6 := hf 1 (by decide)
    rw [if_pos h0, if_pos h1]; rfl
theorem try_cy {m : Nat} {y : SS} {kd n : Int} {xs : List Nat} {t : Nat} (ht : t ≤ 2) : (tryS m y kd n xs t).cy ≤ y.cy + t := by
  have hfin : ∀ z : SS, z.finish.cy ≤ z.cy + 1 := fun z => by unfold SS.finish; dsimp only; split <;> omega
  have h2 : (y.second m kd n).cy ≤ y.cy + 1 := hfin _
  have h3 : ((y.second m kd n).third m kd n xs).cy ≤ (y.second m kd n).cy + 1 := hfin _
  rcases (by omega : t = 0 ∨ t = 1 ∨ t = 2) with rfl | rfl | rfl
  · exact Nat.le_refl _
  · exact h2
  · show ((y.second m kd n).third m kd n xs).cy ≤ _
    omega
theorem try_vals {m : Nat} {y : SS} {kd n : Int} {xs : List Nat} {t : Nat} (hi : GInv m y.s) (hm : m ≤ 65536) (hv : Vals y.s.L) (ht : t ≤ 2) (hf : ∀ j, j < t → ((tryS m y kd n xs j).s.alloc m kd n).2.1 = 6) : GInv m (tryS m y kd n xs t).s ∧ Vals (tryS m y kd n xs t).s.L := by
  have hfail : ∀ z : SS, GInv m z.s → (z.s.alloc m kd n).2.1 = 6 → (z.s.alloc m kd n).2.2 = z.s := fun z hz h6 => by
    rcases alloc_cases hz hm kd n with ⟨e, he, ha⟩ | ⟨a, t, _, ha⟩
    · rw [ha]
    · rw [ha] at h6; cases h6
  have g1 : (y.s.alloc m kd n).2.1 = 6 → GInv m (y.second m kd n).s ∧ Vals (y.second m kd n).s.L := fun h0 => by
    show GInv m (GS.done (y.s.alloc m kd n).2.2) ∧ Vals (GS.done (y.s.alloc m kd n).2.2).L
    rw [hfail y hi h0]
    exact ⟨hi.done, vals_done hi hv⟩
  rcases (by omega : t = 0 ∨ t = 1 ∨ t = 2) with rfl | rfl | rfl
  · exact ⟨hi, hv⟩
  · exact g1 (hf 0 (by decide))
  · obtain ⟨i1, v1⟩ := g1 (hf 0 (by decide))
    have h1 : ((y.second m kd n).s.alloc m kd n).2.1 = 6 := hf 1 (by decide)
    show GInv m (GS.done (((y.second m kd n).s.alloc m kd n).2.2.begin xs).2) ∧ Vals (GS.done (((y.second m kd n).s.alloc m kd n).2.2.begin xs).2).L
    rw [hfail _ i1 h1]
    exact ⟨(i1.begin xs).done, vals_done (i1.begin xs) (vals_begin v1 xs)⟩
section
variable (pr k r m : Nat) (y : SS) (U X : Nat → Prop) (w : World) (h : RSt pr k r m y w U)
include h
set_option maxHeartbeats 1000000 in
theorem zs_Pick (hv : Vals y.s.L) (hc : y.cy ≤ 1000000000) (A : Option Addr) (n c : Nat) (xs : List Nat) (hx : WordsAt w X A n xs) (hX : ∀ b, X b → ¬ U b) (hn : n ≤ 9223372036854775807) :
    Calls Tryz.prog 16 #[.pointer (some ⟨pr, 0, none⟩), .slice A n c] w (ZOne pr k r m (.tuple #[]) (y.pick xs) U w) := by
  obtain ⟨c0, c1, cf, c2, _⟩ := h.head
  by_cases h0 : y.s.ph = 0
  · have HB := Lib.hid (zk_Begin pr k r m y U X w h A n c xs hx hX hn)
    have HP : Hid (y.pick xs = ⟨(y.s.begin xs).2, y.cy⟩) := Lib.hid (by unfold SS.pick; rw [if_pos h0])
    rw [h0] at c2
    clear h hx h0 c1 cf
    go_enter Tryz.func16, Tryz.ntmps16
    go_wp2_with fail
    refine HB.out.mono ?_
    rintro e w1 ⟨rfl, hs⟩
    have HS := Lib.hid hs
    clear hs
    go_wp2_with fail
    go_end0
    exact ⟨rfl, by rw [HP.out]; exact HS.out⟩
  · have HB := Lib.hid (zk_Step pr k r m y U w h hv)
    have B0 : ((y.s.ph : Int) == 0) = false := by rw [beq_eq_false_iff_ne]; omega
    have HP : Hid (y.pick xs = y.step.2) := Lib.hid (by unfold SS.pick; rw [if_neg h0])
    have E1 : IntKind.i64.wrap ((y.cy : Int) + 1) = ((y.cy + 1 : Nat) : Int) := by rw [IntKind.wrap_i64]; omega
    have hb : y.s.step.1 = true ∨ y.s.step.1 = false := by cases y.s.step.1 <;> simp
    clear h hx h0 c1 cf
    generalize y.s.ph = ph at *
    rcases hb with hb | hb
    · have HX : Hid (y.step = (true, ⟨y.s.step.2, y.cy + 1⟩)) := Lib.hid (by unfold SS.step; rw [hb, if_pos rfl])
      rw [hb] at HB
      clear hb
      go_enter Tryz.func16, Tryz.ntmps16
      go_wp2_with fail
      refine HB.out.mono ?_
      rintro e w1 ⟨rfl, hs⟩
      obtain ⟨d0, d1, df, d2, _⟩ := hs.1.head
      have d1 : w1.cell? ⟨pr, 1, none⟩ = some (.int .i64 (y.cy : Int)) := d1
      have HE := Lib.hid (hs.then (hs.1.count (y.cy + 1)))
      clear hs c0 c2 d2
      go_wp2_with fail
      go_end0
      exact ⟨rfl, by rw [HP.out, HX.out]; exact HE.out⟩
    · have HX : Hid (y.step = (false, ⟨y.s.step.2, y.cy⟩)) := Lib.hid (by unfold SS.step; rw [hb, if_neg (by simp)])
      rw [hb] at HB
      clear hb
      go_enter Tryz.func16, Tryz.ntmps16
      go_wp2_with fail
      refine HB.out.mono ?_
      rintro e w1 ⟨rfl, hs⟩
      have HE := Lib.hid hs
      clear hs
      go_wp2_with fail
      go_end0
      exact ⟨rfl, by rw [HP.out, HX.out]; exact HE.out⟩
set_option maxHeartbeats 1000000 in
theorem zs_Set (hv : Vals y.s.L) (v : Nat) (hv64 : v < 18446744073709551616) (i : Int) (x : Nat) :
    Calls Tryz.prog 12 #[.pointer (some ⟨pr, 0, none⟩), .int .u64 (v : Int), .int .i64 i, .int .u64 (x : Int)] w (ZOne pr k r m (.int .i64 (y.s.write (addrW v : Nat) i x).1) ⟨(y.s.write (addrW v : Nat) i x).2, y.cy⟩ U w) := by
  obtain ⟨c0, _, _, _, c4⟩ := h.head
  have HD : Hid (RSt pr k r m y w.drew U) := Lib.hid (rst_keeps pr k r m y w w.drew U h (Nat.le_refl _) fun b _ _ => rfl)
  have HQ : Hid (RGo pr k r m y U w w.drew) := Lib.hid (RGo.quiet h (Below.refl _ w).drew)
  have HR := Lib.hid (zk_Reaches pr k r m y U w.drew HD.out v hv64)
  have hw := zk_Write pr k r m y _ w.drew HQ.out.1 (reachW y.s.L v : Nat) i x hv
  rw [write_reach h.inv.1] at hw
  have HW := Lib.hid hw
  clear h hw
  go_enter Tryz.func12, Tryz.ntmps12
  go_upto_region 1 with fail
  go_region_held3 (fun W => W.cell? ⟨pr, 0, none⟩ = some (.pointer (some ⟨k, 0, none⟩)) ∧ W.cell? ⟨k, 0, none⟩ = some (.pointer (some ⟨r, 0, none⟩))) (go_keep)
    (first | (go_at_call 42; refine HR.out.mono ?_; rintro e w' ⟨rfl, rfl⟩) | (go_at_call 41; refine HW.out.mono ?_; rintro e w1 ⟨rfl, hs⟩; have HS := Lib.hid hs; clear hs; obtain ⟨i0, _, _, _, i4⟩ := HS.out.1.head))
  all_goals
    go_wp2_with fail
    go_ret
    exact ⟨rfl, HQ.out.then HS.out⟩
set_option maxHeartbeats 4000000 in
set_option maxRecDepth 100000 in
theorem zs_Alloc (hv : Vals y.s.L) (hc : y.cy ≤ 100000000) (kd n : Int) (A : Option Addr) (nr c : Nat) (xs : List Nat) (hx : WordsAt w X A nr xs) (hX : ∀ b, X b → ¬ U b ∧ b < w.heap.size) (hn : nr ≤ 9223372036854775807) :
    Calls Tryz.prog 10 #[.pointer (some ⟨pr, 0, none⟩), .int .i64 kd, .int .i64 n, .slice A nr c] w (ZTwo pr k r m (y.alloc m kd n xs) U w) := by
  obtain ⟨hi, hm⟩ := h.inv
  have H := Lib.hid h
  have HX := Lib.hid hx
  have HXU := Lib.hid hX
  have HI := Lib.hid hi
  have HV := Lib.hid hv
  clear h hx hX hi hv
  go_enter Tryz.func10, Tryz.ntmps10
  go_wp2_with fail
  go_loopw [10] (fun vt wr => ∃ t : Nat, t ≤ 2 ∧ vt = .int .i64 t ∧ Hid (RGo pr k r m (tryS m y kd n xs t) U w wr) ∧ Hid (∀ j, j < t → ((tryS m y kd n xs j).s.alloc m kd n).2.1 = 6)) (fun vt _ => 3 - (intOf vt).toNat)
  case atStart => exact ⟨0, by omega, by go_num, Lib.hid (RGo.stay H.out), Lib.hid fun j hj => by omega⟩
  case round =>
    obtain ⟨t, ht, rfl, HR, HF⟩ := hrel
    have g1 : decide ((t : Int) < 3) = true := decide_eq_true (by omega)
    obtain ⟨hzi, hzv⟩ := try_vals HI.out hm HV.out ht HF.out
    have hzc := try_cy (m := m) (y := y) (kd := kd) (n := n) (xs := xs) ht
    have HE := Lib.hid (fun he => try_end ht HF.out he)
    have HNX : Hid (∀ z2, z2 = tryS m y kd n xs (t + 1) → ((tryS m y kd n xs t).s.alloc m kd n).2.1 = 6 → ∀ w9, RGo pr k r m z2 U w w9 → RGo pr k r m (tryS m y kd n xs (t + 1)) U w w9 ∧ ∀ j, j < t + 1 → ((tryS m y kd n xs j).s.alloc m kd n).2.1 = 6) := Lib.hid (fun z2 hz2 h6 w9 h9 => ⟨hz2 ▸ h9, fun j hj => by
      by_cases hjt : j < t
      · exact HF.out j hjt
      · obtain rfl : j = t := by omega
        exact h6⟩)
    have HXW : Hid (WordsAt wr X A nr xs) := Lib.hid (HX.out.keep HR.out.2.size fun b hl hb => HR.out.2.block b hl (HXU.out b hb).1)
    have HXD : Hid (∀ b, X b → ¬ (U b ∨ w.heap.size ≤ b)) := Lib.hid (fun b hb hu => hu.elim (HXU.out b hb).1 fun hx => by have := (HXU.out b hb).2; omega)
    have hal := zk_Alloc pr k r m (tryS m y kd n xs t) _ wr HR.out.1 kd n
    obtain ⟨c0, _, _, _, _⟩ := HR.out.1.head
    have HZ1 : Hid (t = 0 → tryS m y kd n xs (t + 1) = SS.finish ⟨((tryS m y kd n xs t).s.alloc m kd n).2.2, (tryS m y kd n xs t).cy⟩) := Lib.hid (fun h0 => by subst h0; rfl)
    have HZ2 : Hid (t = 1 → tryS m y kd n xs (t + 1) = SS.finish ⟨(((tryS m y kd n xs t).s.alloc m kd n).2.2.begin xs).2, (tryS m y kd n xs t).cy⟩) := Lib.hid (fun h0 => by subst h0; rfl)
    generalize tryS m y kd n xs t = z at *
    rcases alloc_cases hzi hm kd n with ⟨e, he, ha⟩ | ⟨a, t', ha65, ha⟩
    · rw [ha] at hal HE HNX HZ1 HZ2
      have HAL := Lib.hid hal
      have B1 : (e == 0) = false := by rw [beq_eq_false_iff_ne]; exact he
      clear hal ha
      by_cases he6 : e = 6
      · subst he6
        by_cases ht2 : t = 2
        · have HY : Hid (y.alloc m kd n xs = (0, 6, ⟨z.s, z.cy⟩)) := Lib.hid (by rw [HE.out (.inr ht2)]; rfl)
          have B2 : ((t : Int) == 2) = true := by rw [beq_iff_eq]; omega
          clear HE HNX HZ1 HZ2 ht2
          go_wp2_with fail
          refine HAL.out.mono ?_
          rintro e1 w1 ⟨rfl, hs⟩
          have HS := Lib.hid (HR.out.then hs)
          clear hs
          go_wp2_with fail
          go_ret2
          refine ⟨by rw [HY.out]; rfl, ?_⟩
          rw [HY.out]; exact HS.out
        · have B2 : ((t : Int) == 2) = false := by rw [beq_eq_false_iff_ne]; omega
          rcases (by omega : t = 0 ∨ t = 1) with h0 | h0
          · have B3 : ((t : Int) == 1) = false := by rw [beq_eq_false_iff_ne]; omega
            have HZ : Hid (tryS m y kd n xs (t + 1) = SS.finish z) := Lib.hid (HZ1.out h0)
            have ht1 : t ≤ 1 := by omega
            clear HZ1 HZ2 HE ht2 h0
            go_wp2_with fail
            refine HAL.out.mono ?_
            rintro e1 w1 ⟨rfl, hs⟩
            have hs2 := HR.out.then hs
            obtain ⟨d0, d1, df, d2, _⟩ := hs2.1.head
            have HS := Lib.hid hs2
            clear hs hs2 c0
            replace d1 : w1.cell? ⟨pr, 1, none⟩ = some (.int .i64 (z.cy : Int)) := d1
            replace d2 : w1.cell? ⟨k, 1, none⟩ = some (.int .i64 (z.s.ph : Int)) := d2
            by_cases hp : z.s.ph = 0
            · have HN := Lib.hid (HNX.out z (by rw [HZ.out, finish_idle hp]) (by first | rfl | trivial) w1 HS.out)
              replace d2 : w1.cell? ⟨k, 1, none⟩ = some (.int .i64 0) := by rw [d2, hp]; rfl
              clear hp HNX HZ
              go_wp2_with fail
              go_roundw
              case rel => exact ⟨t + 1, by omega, by go_num, Lib.hid HN.out.1, Lib.hid HN.out.2⟩
              case measure => simp [intOf]; omega
            · have B4 : ((z.s.ph : Int) != 0) = true := by rw [bne_iff_ne]; omega
              have HFI := Lib.hid (zk_Finish pr k r m z _ w1 HS.out.1 hzv)
              have E1 : IntKind.i64.wrap ((z.cy : Int) + 1) = ((z.cy + 1 : Nat) : Int) := by rw [IntKind.wrap_i64]; omega
              have HNF : Hid (∀ w9, RGo pr k r m ⟨z.s.done, z.cy + 1⟩ U w w9 → RGo pr k r m (tryS m y kd n xs (t + 1)) U w w9 ∧ ∀ j, j < t + 1 → ((tryS m y kd n xs j).s.alloc m kd n).2.1 = 6) := Lib.hid (fun w9 h9 => HNX.out _ (by rw [HZ.out, finish_busy hp]) (by first | rfl | trivial) w9 h9)
              clear hp HNX HZ
              generalize z.s.ph = ph at *
              go_wp2_with fail
              refine HFI.out.mono ?_
              rintro e2 w2 ⟨K, rfl, hs⟩
              obtain ⟨f0, f1, ff, _, _⟩ := hs.1.head
              replace f1 : w2.cell? ⟨pr, 1, none⟩ = some (.int .i64 (z.cy : Int)) := f1
              have HN := Lib.hid (HNF.out _ ((HS.out.then hs).then ((HS.out.then hs).1.count (z.cy + 1))))
              clear hs HFI HNF d0 d1 df d2
              go_wp2_with fail
              clear E1
              go_roundw
              case rel => exact ⟨t + 1, by omega, by go_num, Lib.hid HN.out.1, Lib.hid HN.out.2⟩
              case measure => simp [intOf]; omega
          · have B3 : ((t : Int) == 1) = true := by rw [beq_iff_eq]; omega
            have HZ : Hid (tryS m y kd n xs (t + 1) = SS.finish ⟨(z.s.begin xs).2, z.cy⟩) := Lib.hid (HZ2.out h0)
            have ht1 : t ≤ 1 := by omega
            clear HZ1 HZ2 HE ht2 h0
            go_wp2_with fail
            refine HAL.out.mono ?_
            rintro e1 w0 ⟨rfl, hs⟩
            have hs0 := HR.out.then hs
            obtain ⟨b0, _, _, _, _⟩ := hs0.1.head
            have HXW0 : Hid (WordsAt w0 X A nr xs) := Lib.hid (HX.out.keep hs0.2.size fun b hl hb => hs0.2.block b hl (HXU.out b hb).1)
            have HBG := Lib.hid (zk_Begin pr k r m z _ X w0 hs0.1 A nr c xs HXW0.out HXD.out hn)
            have HS0 := Lib.hid hs0
            clear hs hs0 c0
            go_wp2_with fail
            refine HBG.out.mono ?_
            rintro e1 w1 ⟨rfl, hs⟩
            have hs2 := HS0.out.then hs
            obtain ⟨d0, d1, df, d2, _⟩ := hs2.1.head
            have HS := Lib.hid hs2
            clear hs hs2 b0
            replace d1 : w1.cell? ⟨pr, 1, none⟩ = some (.int .i64 (z.cy : Int)) := d1
            replace d2 : w1.cell? ⟨k, 1, none⟩ = some (.int .i64 ((z.s.begin xs).2.ph : Int)) := d2
            by_cases hp : (z.s.begin xs).2.ph = 0
            · have HN := Lib.hid (HNX.out ⟨(z.s.begin xs).2, z.cy⟩ (by rw [HZ.out, finish_idle (x := ⟨(z.s.begin xs).2, z.cy⟩) hp]) (by first | rfl | trivial) w1 HS.out)
              replace d2 : w1.cell? ⟨k, 1, none⟩ = some (.int .i64 0) := by rw [d2, hp]; rfl
              clear hp HNX HZ
              go_wp2_with fail
              go_roundw
              case rel => exact ⟨t + 1, by omega, by go_num, Lib.hid HN.out.1, Lib.hid HN.out.2⟩
              case measure => simp [intOf]; omega
            · have B4 : (((z.s.begin xs).2.ph : Int) != 0) = true := by rw [bne_iff_ne]; omega
              have HFI := Lib.hid (zk_Finish pr k r m ⟨(z.s.begin xs).2, z.cy⟩ _ w1 HS.out.1 (vals_begin hzv xs))
              have E1 : IntKind.i64.wrap ((z.cy : Int) + 1) = ((z.cy + 1 : Nat) : Int) := by rw [IntKind.wrap_i64]; omega
              have HNF : Hid (∀ w9, RGo pr k r m ⟨(z.s.begin xs).2.done, z.cy + 1⟩ U w w9 → RGo pr k r m (tryS m y kd n xs (t + 1)) U w w9 ∧ ∀ j, j < t + 1 → ((tryS m y kd n xs j).s.alloc m kd n).2.1 = 6) := Lib.hid (fun w9 h9 => HNX.out _ (by rw [HZ.out, finish_busy (x := ⟨(z.s.begin xs).2, z.cy⟩) hp]) (by first | rfl | trivial) w9 h9)
              clear hp HNX HZ
              generalize (z.s.begin xs).2.ph = ph at *
              go_wp2_with fail
              refine HFI.out.mono ?_
              rintro e2 w2 ⟨K, rfl, hs⟩
              obtain ⟨f0, f1, ff, _, _⟩ := hs.1.head
              replace f1 : w2.cell? ⟨pr, 1, none⟩ = some (.int .i64 (z.cy : Int)) := f1
              have HN := Lib.hid (HNF.out _ ((HS.out.then hs).then ((HS.out.then hs).1.count (z.cy + 1))))
              clear hs HFI HNF d0 d1 df d2
              go_wp2_with fail
              clear E1
              go_roundw
              case rel => exact ⟨t + 1, by omega, by go_num, Lib.hid HN.out.1, Lib.hid HN.out.2⟩
              case measure => simp [intOf]; omega
      · have B5 : (e != 6) = true := by rw [bne_iff_ne]; exact he6
        have HY : Hid (y.alloc m kd n xs = (0, e, ⟨z.s, z.cy⟩)) := Lib.hid (by rw [HE.out (.inl he6)]; unfold SS.put; rw [if_neg he])
        clear HE HNX HZ1 HZ2 he6 he
        go_wp2_with fail
        refine HAL.out.mono ?_
        rintro e1 w1 ⟨rfl, hs⟩
        have HS := Lib.hid (HR.out.then hs)
        clear hs
        go_wp2_with fail
        go_ret2
        refine ⟨by rw [HY.out]; rfl, ?_⟩
        rw [HY.out]; exact HS.out
    · rw [ha] at hal HE
      have HAL := Lib.hid hal
      have HY : Hid (y.alloc m kd n xs = (2 * a, 0, ⟨t', z.cy⟩)) := Lib.hid (by rw [HE.out (.inl (by show (0 : Int) ≠ 6; decide))]; rfl)
      have HRF := Lib.hid (fun W => rref_any a ha65 W)
      clear hal ha HE HNX HZ1 HZ2
      go_wp2_with fail
      refine HAL.out.mono ?_
      rintro e1 w1 ⟨rfl, hs⟩
      have HS := Lib.hid (HR.out.then hs)
      clear hs
      go_wp2_with fail
      refine (HRF.out _).mono ?_
      rintro e2 w' ⟨rfl, rfl⟩
      go_wp2_with fail
      go_ret2
      refine ⟨by rw [HY.out]; rfl, ?_⟩
      rw [HY.out]; exact HS.out
omit h in
set_option maxHeartbeats 1000000 in
theorem zs_New (m : Nat) (hm : 2 ≤ m ∧ m ≤ 65536) (w : World) : Calls Tryz.prog 7 #[.int .i64 (m : Int)] w (fun e w' => ∃ pr k r, e = .returned (.pointer (some ⟨pr, 0, none⟩)) ∧ RSt pr k r m ⟨⟨[], 0, [], [], 0⟩, 0⟩ w' (fun b => w.heap.size ≤ b ∧ b < w'.heap.size) ∧ Below w.heap.size w w') := by
  go_enter Tryz.func7, Tryz.ntmps7
  go_wp2_with fail
  refine (ref_New m w hm).mono ?_
  rintro e w1 ⟨r, rfl, h1, hb1⟩
  have H1 := Lib.hid h1
  have HB1 := Lib.hid hb1
  clear h1 hb1
  go_wp2_with fail
  refine (knew_any r m _ [] w1 H1.out (show 1 ≤ m by omega) hm.2).mono ?_
  rintro e w2 ⟨k, rfl, hk, hb2⟩
  have hb := HB1.out.trans (hb2.mono HB1.out.size)
  have HK : Hid (∃ pr k' r', Value.pointer (some ⟨w2.heap.size, 0, none⟩) = Value.pointer (some ⟨pr, 0, none⟩) ∧ RSt pr k' r' m ⟨⟨[], 0, [], [], 0⟩, 0⟩ (w2.alloc (.cells #[.pointer (some ⟨k, 0, none⟩), .int .i64 0] 51)) (fun b => w.heap.size ≤ b ∧ b < (w2.alloc (.cells #[.pointer (some ⟨k, 0, none⟩), .int .i64 0] 51)).heap.size) ∧ Below w.heap.size w (w2.alloc (.cells #[.pointer (some ⟨k, 0, none⟩), .int .i64 0] 51))) := Lib.hid (by
    have h3 := below_one (w := w2) (.cells #[.pointer (some ⟨k, 0, none⟩), .int .i64 0] 51)
    have hz := hb.size
    obtain ⟨S, vG, vB, hkm⟩ := hk
    refine ⟨w2.heap.size, k, r, rfl, ⟨⟨by omega, by simp⟩, _, kat_keep ⟨S, vG, vB, hkm.bounded⟩ h3.size fun b hl _ => h3.block b hl, ?_, heap_alloc_new w2 _⟩, hb.trans (h3.mono hz)⟩
    rintro b ⟨hb1 | hb1, hl⟩
    · exact ⟨⟨hb1.1, by simp; omega⟩, by omega⟩
    · have := HB1.out.size
      exact ⟨⟨by omega, by simp; omega⟩, by omega⟩)
  clear hk hb2 hb
  go_wp2_with fail
  go_ret
  obtain ⟨pr, k', r', he, hr⟩ := HK.out
  exact ⟨pr, k', r', congrArg Ending.returned he, hr⟩
end
theorem none_room {m k n p : Nat} {L : List Ob} (h : allocAt m k n p L = none) (hl : Lies m p L) : m - p ≤ usedBy L + (L.length + 1) * n := by
  induction L generalizing p with
  | nil =>
    unfold allocAt at h
    split at h
    · cases h
    · rename_i hn
      show m - p ≤ 0 + (0 + 1) * n
      omega
  | cons o L ih =>
    unfold allocAt at h
    split at h
    · cases h
    · rename_i hn
      have h2 := ih (p := o.next) (by simpa using h) hl.2
      have h0 : p ≤ o.at_ := hl.1
      have hnx : o.next = o.at_ + 1 + o.fs.length := rfl
      show m - p ≤ o.fs.length + 1 + usedBy L + (L.length + 1 + 1) * n
      rw [Nat.add_mul (L.length + 1) 1 n]
      omega
theorem err_or {m : Nat} {s : GS} (n : Nat) (hn : n ≤ 4096) : (s.alloc m 6 (n : Int)).2.1 = 0 ∨ (s.alloc m 6 (n : Int) = (0, 6, s) ∧ allocAt m 6 n 1 s.L = none) := by
  cases ha : allocAt m 6 n 1 s.L with
  | none =>
    have hh : hAlloc m s.L 6 (n : Int) = (0, 6, s.L) := by
      unfold hAlloc
      rw [if_neg (by omega), if_neg (by omega)]
      simp only [Int.toNat_natCast]
      rw [show (6 : Int).toNat = 6 from rfl, ha]
    exact .inr ⟨by unfold GS.alloc; rw [hh, if_neg (show ¬ (6 : Int) = 0 by decide)], rfl⟩
  | some r =>
    have hh : (hAlloc m s.L 6 (n : Int)).2.1 = 0 := by
      unfold hAlloc
      rw [if_neg (by omega), if_neg (by omega)]
      simp only [Int.toNat_natCast]
      rw [show (6 : Int).toNat = 6 from rfl, ha]
    exact .inl (by unfold GS.alloc; rw [if_pos hh])
/-- What registers reach is there, and as it was, when a cycle has come to its end. -/
theorem done_reach {m : Nat} {s : GS} {regs : List Nat} (h : SafeInv regs s) (hi : GInv m s) : SafeInv regs s.done ∧ (∀ a o, findOb s.done.L a = some o → findOb s.L a = some o) ∧ ∀ a, Reached s.done.L regs a ↔ Reached s.L regs a := by
  have hrun : ∀ K, SafeInv regs (s.run K) ∧ ∀ a o, findOb (s.run K).L a = some o → findOb s.L a = some o := fun K => by
    induction K with
    | zero => exact ⟨h, fun _ _ ho => ho⟩
    | succ K ih => exact ⟨ih.1.step (hi.run K), fun a o ho => ih.2 a o (step_find (hi.run K) ho)⟩
  have hd : SafeInv regs s.done ∧ ∀ a o, findOb s.done.L a = some o → findOb s.L a = some o := by
    unfold GS.done
    split
    · exact hrun _
    · exact ⟨h, fun _ _ ho => ho⟩
  refine ⟨hd.1, hd.2, fun a => ⟨fun ha => ?_, fun ha => ?_⟩⟩
  · induction ha with
    | root hx hin =>
      obtain ⟨o, ho⟩ := isIn_some hin
      exact .root hx (isIn_of (hd.2 _ _ ho))
    | step hb hx hin ih =>
      obtain ⟨o, ho, hk, hxo⟩ := kids_string hx
      obtain ⟨o2, ho2⟩ := isIn_some hin
      exact .step ih (by rw [kids_of (hd.2 _ _ ho) hk]; exact hxo) (isIn_of (hd.2 _ _ ho2))
  · obtain ⟨⟨L0, roots, D, hs⟩, hf⟩ := hd
    have key : ∀ a, Reached s.L regs a → Alive L0 roots D a ∧ Reached s.done.L regs a := fun a ha => by
      induction ha with
      | root hx hin =>
        rcases hs.regs _ hx with h1 | h1
        · exact absurd hin (odd_no hi.lies h1)
        · exact ⟨h1, .root hx (hs.keep.isin _ h1)⟩
      | step hb hx hin ih =>
        obtain ⟨o, ho, hk, hxo⟩ := kids_string hx
        obtain ⟨o2, ho2⟩ := isIn_some (hs.keep.isin _ ih.1)
        have he := hf _ _ ho2
        obtain rfl := Option.some.inj (he.symm.trans ho)
        rcases hs.fields _ _ ih.1 ho2 _ hxo with h1 | h1
        · exact absurd hin (odd_no hi.lies h1)
        · exact ⟨h1, .step ih.2 (by rw [kids_of ho2 hk]; exact hxo) (hs.keep.isin _ h1)⟩
    exact (key a ha).2
theorem done_ph {m : Nat} {s : GS} (hi : GInv m s) : s.done.ph = 0 := by
  have hex : ∃ K, EndsAt s K := by
    have hex : ∃ k, (s.run k).ph = 0 := by
      refine Classical.byContradiction fun hn => ?_
      have h1 := not_left hi (2 * m + 2) fun j _ hj => hn ⟨j, hj⟩
      omega
    obtain ⟨k, hk⟩ := hex
    induction k using Nat.strongRecOn with
    | ind k ih =>
      by_cases hx : ∃ j, j < k ∧ (s.run j).ph = 0
      · obtain ⟨j, hj, hj0⟩ := hx
        exact ih j hj hj0
      · exact ⟨k, hk, fun j hj hj0 => hx ⟨j, hj, hj0⟩⟩
  obtain ⟨K, hK⟩ := hex
  rw [done_is hK]
  exact hK.1
theorem sizes_same {L L' : List Ob} {out : List Nat} (h : ∀ a ∈ out, sizeAt L a = sizeAt L' a) : sumSizes L out = sumSizes L' out := by
  unfold sumSizes
  rw [List.map_congr_left h]
theorem full_bound {m : Nat} {x : SS} {regs out : List Nat} (h : SafeInv regs x.s) (hi : GInv m x.s) (n : Nat) (hn : n ≤ 4096) (hnd : out.Nodup) (hout : ∀ a, a ∈ out ↔ Reached x.s.L regs a) :
    (x.alloc m 6 (n : Int) regs).2.1 = 0 ∨ ((x.alloc m 6 (n : Int) regs).2.1 = 6 ∧ m - 1 ≤ sumSizes x.s.L out + (out.length + 1) * n) := by
  have hput : ∀ (z : SS) (r : Int × Int × GS), (z.put r).2.1 = r.2.1 := fun z r => by
    unfold SS.put
    split
    · rename_i h0; exact h0.symm
    · rfl
  unfold SS.alloc
  rcases err_or (m := m) (s := x.s) n hn with h0 | ⟨h0, _⟩
  · rw [if_neg (by rw [h0]; decide), hput]; exact .inl h0
  · rw [if_pos (by rw [h0])]
    have e2 : (x.second m 6 (n : Int)).s = x.s.done := by
      show GS.done (x.s.alloc m 6 (n : Int)).2.2 = _
      rw [h0]
    rcases err_or (m := m) (s := (x.second m 6 (n : Int)).s) n hn with h1 | ⟨h1, _⟩
    · rw [if_neg (by rw [h1]; decide), hput]; exact .inl h1
    · rw [if_pos (by rw [h1]), hput]
      have e3 : ((x.second m 6 (n : Int)).third m 6 (n : Int) regs).s = (x.s.done.begin regs).2.done := by
        show GS.done (((x.second m 6 (n : Int)).s.alloc m 6 (n : Int)).2.2.begin regs).2 = _
        rw [h1, e2]
      rw [e3]
      rcases err_or (m := m) (s := (x.s.done.begin regs).2.done) n hn with h2 | ⟨h2, hno⟩
      · exact .inl h2
      · refine .inr ⟨by rw [h2], ?_⟩
        obtain ⟨hs, hf, hre⟩ := done_reach h hi
        have hid := hi.done
        have hib := hid.begin regs
        have hp0 := done_ph hi
        have hend : ∃ K, EndsAt (x.s.done.begin regs).2 K := by
          have hex : ∃ k, ((x.s.done.begin regs).2.run k).ph = 0 := by
            refine Classical.byContradiction fun hn => ?_
            have h1 := not_left hib (2 * m + 2) fun j _ hj => hn ⟨j, hj⟩
            omega
          obtain ⟨k, hk⟩ := hex
          induction k using Nat.strongRecOn with
          | ind k ih =>
            by_cases hx : ∃ j, j < k ∧ ((x.s.done.begin regs).2.run j).ph = 0
            · obtain ⟨j, hj, hj0⟩ := hx
              exact ih j hj hj0
            · exact ⟨k, hk, fun j hj hj0 => hx ⟨j, hj, hj0⟩⟩
        obtain ⟨K, hK⟩ := hend
        rw [done_is hK] at hno
        have hir := hib.run K
        have hc := fun a => cycle_left hid hp0 regs hK.1 a
        have hp : out.Perm (((x.s.done.begin regs).2.run K).L.map Ob.at_) := by
          refine (List.perm_ext_iff_of_nodup hnd (lies_nodup hir.lies)).2 fun a => ?_
          rw [hout a, ← hre a, ← (hc a).1]
          constructor
          · intro h
            obtain ⟨o, ho⟩ := isIn_some h
            obtain ⟨h1, h2⟩ := find_mem ho
            exact List.mem_map.2 ⟨o, h1, h2⟩
          · intro h
            obtain ⟨o, h1, rfl⟩ := List.mem_map.1 h
            exact isIn_of (find_of_mem hir.lies h1)
        have hlen : out.length = ((x.s.done.begin regs).2.run K).L.length := by rw [hp.length_eq, List.length_map]
        have h3 : sumSizes x.s.L out = sumSizes x.s.L (((x.s.done.begin regs).2.run K).L.map Ob.at_) := (hp.map _).sum_nat
        have h4 := used_sizes (L := x.s.L) hir.lies fun o ho => by
          have h3 := find_of_mem hir.lies ho
          have h5 := (hc o.at_).2 (isIn_of h3)
          rw [h3] at h5
          exact hf _ _ h5.symm
        have h5 := none_room hno hir.lies
        rw [h3, h4, hlen]
        exact h5
/-- What registers reach is kept by the store's Alloc. -/
theorem SafeInv.salloc {m : Nat} {x : SS} {regs : List Nat} (h : SafeInv regs x.s) (hi : GInv m x.s) (hm : m ≤ 65536) (n : Int) (ra : Nat) :
    ((x.alloc m 6 n regs).2.1 ≠ 0 → SafeInv regs (x.alloc m 6 n regs).2.2.s) ∧ ((x.alloc m 6 n regs).2.1 = 0 → SafeInv (regs.set ra (x.alloc m 6 n regs).1) (x.alloc m 6 n regs).2.2.s) := by
  have hput : ∀ z : SS, GInv m z.s → SafeInv regs z.s → ((z.put (z.s.alloc m 6 n)).2.1 ≠ 0 → SafeInv regs (z.put (z.s.alloc m 6 n)).2.2.s) ∧ ((z.put (z.s.alloc m 6 n)).2.1 = 0 → SafeInv (regs.set ra (z.put (z.s.alloc m 6 n)).1) (z.put (z.s.alloc m 6 n)).2.2.s) := fun z hz hs => by
    have h1 := hs.alloc hz hm n ra
    unfold SS.put
    split
    · rename_i h0
      exact ⟨fun hx => absurd rfl hx, fun _ => (h1.2 h0).2.2⟩
    · rename_i h0
      exact ⟨fun _ => h1.1 h0, fun hx => absurd hx h0⟩
  have hfail : ∀ z : SS, GInv m z.s → (z.s.alloc m 6 n).2.1 = 6 → (z.s.alloc m 6 n).2.2 = z.s := fun z hz h6 => by
    rcases alloc_cases hz hm 6 n with ⟨e, he, ha⟩ | ⟨a, t, _, ha⟩
    · rw [ha]
    · rw [ha] at h6; cases h6
  unfold SS.alloc
  split
  · rename_i h6
    have s2 : SafeInv regs (x.second m 6 n).s := by
      show SafeInv regs (GS.done (x.s.alloc m 6 n).2.2)
      rw [hfail x hi h6]; exact (done_reach h hi).1
    have i2 : GInv m (x.second m 6 n).s := GInv.done (hi.alloc 6 n)
    split
    · rename_i h62
      have s3 : SafeInv regs ((x.second m 6 n).third m 6 n regs).s := by
        show SafeInv regs (GS.done (((x.second m 6 n).s.alloc m 6 n).2.2.begin regs).2)
        rw [hfail _ i2 h62]; exact (done_reach (s2.begin i2) (i2.begin regs)).1
      exact hput _ (GInv.done ((i2.alloc 6 n).begin regs)) s3
    · exact hput _ i2 s2
  · exact hput _ hi h
theorem SafeInv.spick {m : Nat} {x : SS} {regs : List Nat} (h : SafeInv regs x.s) (hi : GInv m x.s) : SafeInv regs (x.pick regs).s := by
  unfold SS.pick
  split
  · exact h.begin hi
  · exact h.step hi
theorem RSt.bound {pr k r m : Nat} {y : SS} {w : World} {U : Nat → Prop} (h : RSt pr k r m y w U) : RSt pr k r m y w (fun b => U b ∧ b < w.heap.size) := by
  obtain ⟨hU, V, ⟨S, vG, vB, hk⟩, hV, hh⟩ := h
  exact ⟨⟨hU, lt_of_heap hh⟩, _, ⟨S, vG, vB, hk.bounded⟩, fun b hb => ⟨⟨(hV b hb.1).1, hb.2⟩, (hV b hb.1).2⟩, hh⟩
/-- The document's store, and the step at hand. -/
def RF (pb : Nat) (st : Stp4) (pr k r m : Nat) (y : SS) (w : World) (T : Nat → Prop) : Prop := T pb ∧ w.heap[pb]? = some (.cells #[.int .i64 st.k, .int .i64 st.a, .int .i64 st.b, .int .i64 st.n, .int .i64 st.m, .string st.t] 30 (0, 0)) ∧ ∃ U0, RSt pr k r m y w U0 ∧ ∀ b, U0 b → T b ∧ b ≠ pb
theorem rf_keeps (pb : Nat) (st : Stp4) (pr k r m : Nat) (y : SS) : Keeps (RF pb st pr k r m y) := fun _ _ _ ⟨h1, h2, U0, h3, h4⟩ hz hk => ⟨h1, (hk pb (lt_of_heap h2) h1).trans h2, U0, rst_keeps pr k r m y _ _ _ h3 hz fun b hl hb => hk b hl (h4 b hb).1, h4⟩
theorem MidX.weaker {R R' : World → (Nat → Prop) → Prop} {w wr : World} {p g q m rb : Nat} {x : SS} {regs : List Nat} {T : Nat → Prop} (h : MidX R w p g q m rb x regs wr T) (hR : R wr T → R' wr T) : MidX R' w p g q m rb x regs wr T := ⟨h.store, hR h.side, h.row, h.len, h.small, h.below, h.new, h.rbl, h.apart⟩
section
variable {w wr : World} {p g q m rb pb pr k r : Nat} {st : Stp4} {x y : SS} {regs : List Nat} {T : Nat → Prop}
theorem MidX.unbox (h : MidX (RF pb st pr k r m y) w p g q m rb x regs wr T) : MidX (RSt pr k r m y) w p g q m rb x regs wr T :=
  h.weaker fun ⟨_, _, _, h3, h4⟩ => h3.mono fun b hb => (h4 b hb).1
theorem MidX.boxF (st : Stp4) (h : MidX (RSt pr k r m y) w p g q m rb x regs wr T) : ∃ T', MidX (RF wr.heap.size st pr k r m y) w p g q m rb x regs (wr.alloc (.cells #[.int .i64 st.k, .int .i64 st.a, .int .i64 st.b, .int .i64 st.n, .int .i64 st.m, .string st.t] 30)) T' := by
  have hb := below_one (w := wr) (.cells #[.int .i64 st.k, .int .i64 st.a, .int .i64 st.b, .int .i64 st.n, .int .i64 st.m, .string st.t] 30)
  have hs := h.side.bound
  refine h.goR (Turned.of_below hb) ⟨⟨.inr (Nat.le_refl _), by simp⟩, heap_alloc_new wr _, _, rst_keeps pr k r m y _ _ _ hs hb.size fun b hl _ => hb.block b hl, fun b hU => ⟨⟨.inl hU.1, Nat.lt_of_lt_of_le hU.2 hb.size⟩, by have := hU.2; omega⟩⟩
theorem MidX.stepCells (h : MidX (RF pb st pr k r m y) w p g q m rb x regs wr T) : wr.cell? ⟨pb, 0, none⟩ = some (.int .i64 st.k) ∧ wr.cell? ⟨pb, 1, none⟩ = some (.int .i64 st.a) ∧ wr.cell? ⟨pb, 2, none⟩ = some (.int .i64 st.b) ∧ wr.cell? ⟨pb, 4, none⟩ = some (.int .i64 st.m) ∧ pb < wr.heap.size := by
  have hb := h.side.2.1
  refine ⟨?_, ?_, ?_, ?_, lt_of_heap hb⟩ <;> (rw [Lib.cell_of_heap hb]; rfl)
theorem MidX.goF {z : SS} {w' : World} {U0 : Nat → Prop} (h : MidX (RF pb st pr k r m y) w p g q m rb x regs wr T) (hU : ∀ b, U0 b → T b ∧ b ≠ pb) (hs : RGo pr k r m z U0 wr w') : ∃ T', MidX (RF pb st pr k r m z) w p g q m rb x regs w' T' := by
  obtain ⟨h1, h2, _⟩ := h.side
  have hz := hs.2.size
  refine h.goR (hs.2.mono fun b hb => (hU b hb).1) ⟨⟨.inl h1, Nat.lt_of_lt_of_le (lt_of_heap h2) hz⟩, (hs.2.block pb (lt_of_heap h2) fun hb => (hU pb hb).2 rfl).trans h2, _, hs.1.bound, ?_⟩
  rintro b ⟨hb | hb, hl⟩
  · exact ⟨⟨.inl (hU b hb).1, hl⟩, (hU b hb).2⟩
  · exact ⟨⟨.inr hb, hl⟩, by have := lt_of_heap h2; omega⟩
theorem MidX.rootsOnly (h : MidX (RF pb st pr k r m y) w p g q m rb x regs wr T) : WordsAt wr (· = rb) (some ⟨rb, 0, none⟩) 8 regs :=
  ⟨h.len, h.small, fun i hi => ⟨rb, 0, rfl, h.rbl, rfl, by
    rw [Nat.zero_add]
    exact h.row.cell i (by rw [h.len]; exact hi)⟩⟩
theorem f_Alloc (h : MidX (RF pb st pr k r m y) w p g q m rb x regs wr T) (hv : Vals y.s.L) (hc : y.cy ≤ 100000000) (kd n : Int) :
    Calls Tryz.prog 10 #[.pointer (some ⟨pr, 0, none⟩), .int .i64 kd, .int .i64 n, .slice (some ⟨rb, 0, none⟩) 8 8] wr (fun e w' => e = .returned (.tuple #[.int .u64 ((y.alloc m kd n regs).1 : Nat), .int .i64 (y.alloc m kd n regs).2.1]) ∧ ∃ T', MidX (RF pb st pr k r m (y.alloc m kd n regs).2.2) w p g q m rb x regs w' T') := by
  obtain ⟨_, _, U0, h3, h4⟩ := h.side
  refine (zs_Alloc pr k r m y U0 (· = rb) wr h3 hv hc kd n (some ⟨rb, 0, none⟩) 8 8 regs h.rootsOnly (fun b hb => ⟨fun hu => (h.apart b (h4 b hu).1).2.1 hb, by rw [hb]; exact h.rbl⟩) (by decide)).mono ?_
  rintro e w' ⟨rfl, hs⟩
  exact ⟨rfl, h.goF h4 hs⟩
theorem f_Set (h : MidX (RF pb st pr k r m y) w p g q m rb x regs wr T) (hv : Vals y.s.L) (v : Nat) (hv64 : v < 18446744073709551616) (i : Int) (u : Nat) :
    Calls Tryz.prog 12 #[.pointer (some ⟨pr, 0, none⟩), .int .u64 (v : Int), .int .i64 i, .int .u64 (u : Int)] wr (fun e w' => e = .returned (.int .i64 (y.s.write (addrW v : Nat) i u).1) ∧ ∃ T', MidX (RF pb st pr k r m ⟨(y.s.write (addrW v : Nat) i u).2, y.cy⟩) w p g q m rb x regs w' T') := by
  obtain ⟨_, _, U0, h3, h4⟩ := h.side
  refine (zs_Set pr k r m y U0 wr h3 hv v hv64 i u).mono ?_
  rintro e w' ⟨rfl, hs⟩
  exact ⟨rfl, h.goF h4 hs⟩
theorem f_Pick (h : MidX (RF pb st pr k r m y) w p g q m rb x regs wr T) (hv : Vals y.s.L) (hc : y.cy ≤ 1000000000) :
    Calls Tryz.prog 16 #[.pointer (some ⟨pr, 0, none⟩), .slice (some ⟨rb, 0, none⟩) 8 8] wr (fun e w' => e = .returned (.tuple #[]) ∧ ∃ T', MidX (RF pb st pr k r m (y.pick regs)) w p g q m rb x regs w' T') := by
  obtain ⟨_, _, U0, h3, h4⟩ := h.side
  refine (zs_Pick pr k r m y U0 (· = rb) wr h3 hv hc (some ⟨rb, 0, none⟩) 8 8 regs h.rootsOnly (fun b hb hu => (h.apart b (h4 b hu).1).2.1 hb) (by decide)).mono ?_
  rintro e w' ⟨rfl, hs⟩
  exact ⟨rfl, h.goF h4 hs⟩
theorem MidX.valsOf {R : World → (Nat → Prop) → Prop} (h : MidX R w p g q m rb x regs wr T) : Vals x.s.L := by
  obtain ⟨S, hh⟩ := h.store.1.heap
  exact hh.vals
end
theorem alloc_cy (m : Nat) (x : SS) (kd n : Int) (xs : List Nat) : (x.alloc m kd n xs).2.2.cy ≤ x.cy + 2 := by
  have hput : ∀ (z : SS) (r : Int × Int × GS), (z.put r).2.2.cy = z.cy := fun z r => by unfold SS.put; split <;> rfl
  have hfin : ∀ z : SS, z.finish.cy ≤ z.cy + 1 := fun z => by unfold SS.finish; dsimp only; split <;> omega
  have h2 : (x.second m kd n).cy ≤ x.cy + 1 := hfin _
  have h3 : ((x.second m kd n).third m kd n xs).cy ≤ (x.second m kd n).cy + 1 := hfin _
  unfold SS.alloc
  split
  · split
    · rw [hput]; omega
    · rw [hput]; omega
  · rw [hput]; omega
theorem pick_cy (x : SS) (xs : List Nat) : (x.pick xs).cy ≤ x.cy + 1 := by
  unfold SS.pick SS.step
  split
  · exact Nat.le_succ _
  · dsimp only; split <;> omega
/-- In the midst of the law StoreFull: both stores hold alike, and what the registers reach is kept. -/
def MidZ (w1 : World) (p g q m rb pr k r i : Nat) (wr : World) : Prop := ∃ (x : SS) (regs : List Nat) (T : Nat → Prop), MidX (RSt pr k r m x) w1 p g q m rb x regs wr T ∧ SafeInv regs x.s ∧ x.cy ≤ 2 * i
theorem six4_of (a : Int) : ∃ r : Nat, r < 6 ∧ wrap64 ((IntKind.u64.wrap a).tmod 6) = (r : Int) := by
  have h1 : 0 ≤ IntKind.u64.wrap a := by rw [IntKind.wrap_u64]; omega
  refine ⟨(IntKind.u64.wrap a % 6).toNat, by omega, ?_⟩
  rw [Int.tmod_eq_emod_of_nonneg h1]
  unfold wrap64
  omega
theorem zmid_start {w w2 w3 : World} {p g q m pr k r : Nat} (h : MidSt w p g q m ⟨⟨[], 0, [], [], 0⟩, 0⟩ w2) (h3 : RSt pr k r m ⟨⟨[], 0, [], [], 0⟩, 0⟩ w3 (fun b => w2.heap.size ≤ b ∧ b < w3.heap.size)) (hb3 : Below w2.heap.size w2 w3) :
    MidX (RSt pr k r m ⟨⟨[], 0, [], [], 0⟩, 0⟩) w p g q m w3.heap.size ⟨⟨[], 0, [], [], 0⟩, 0⟩ (List.replicate 8 1) (w3.alloc (.cells #[.int .u64 1, .int .u64 1, .int .u64 1, .int .u64 1, .int .u64 1, .int .u64 1, .int .u64 1, .int .u64 1] 33)) (fun b => w2.heap.size ≤ b ∧ b < w3.heap.size) := by
  have z2 := h.2.size
  have z3 := hb3.size
  have hb4 : Below w3.heap.size w3 (w3.alloc (.cells #[.int .u64 1, .int .u64 1, .int .u64 1, .int .u64 1, .int .u64 1, .int .u64 1, .int .u64 1, .int .u64 1] 33)) := below_one _
  have hb24 := hb3.trans (hb4.mono z3)
  refine ⟨h.1.more hb24 (fun b hb => ?_), rst_keeps pr k r m _ _ _ _ h3 hb4.size fun b hl _ => hb4.block b hl, ⟨rfl, .inr ⟨w3.heap.size, 8, _, rfl, Nat.zero_le _, heap_alloc_new w3 _, Nat.le_refl _, by unfold maxLen; decide, rfl, rfl⟩⟩, by simp, fun y hy => ?_, h.2.trans (hb24.mono z2), by omega, by simp, fun b hT => ⟨by omega, by omega, by simp; omega⟩⟩
  · rcases hb with (hb | rfl) | ⟨hb1, hb2⟩
    · exact .inl hb
    · exact .inr ⟨z3, by simp⟩
    · exact .inr ⟨hb1, by simp; omega⟩
  · rw [List.eq_of_mem_replicate hy]; decide
theorem safe_eight : SafeInv (List.replicate 8 1) ⟨[], 0, [], [], 0⟩ := by
  obtain ⟨L0, roots, D, h⟩ := safe_start
  exact ⟨L0, roots, D, h.keep, h.kinds, fun x hx => .inl (by rw [List.eq_of_mem_replicate hx]), h.fields⟩
end Go.Proofs.YtdkbgdjkdalalaaGreatDoor
