/-
  The walk of the law HeapApart: whatever the input, it returns true and leaves what was there as it was. Condition: the table of math/bits holds what its initialiser lays.
-/
import Derived.Test.YtbmkjlpjgkfjcaaDoorHApB
import Derived.Deep.RegionHeld3
import Derived.Deep.RegionLaw
namespace Go.Proofs.YtbmkjlpjgkfjcaaDoor
open Go.RowKit
theorem infoHeld : (Tryd.prog.info? 45).map (fun i => (i.zero, i.size, i.bytes)) = some (some (.agg #[.int .i64 0, .int .i64 0, .slice none 0 0]), 3, 40) := by kernel_rfl
/-- In the midst of the law. -/
def MidA (q m : Nat) (w : World) (i : Nat) (v : Value) (wr : World) : Prop := ∃ L P, Apt (fun b => b < w.heap.size) wr q m L v P ∧ Good L (P.map (·.1)) ∧ Below w.heap.size w wr ∧ P.length ≤ i
theorem apt_start {q m : Nat} {w w1 w2 : World} (hb : Below w.heap.size w w1) (h2 : HAt w2 q (fun b => w1.heap.size ≤ b) m []) (hb2 : Below w1.heap.size w1 w2) :
    MidA q m w 0 (.slice (some ⟨w2.heap.size, 0, none⟩) 0 0) (w2.alloc (.cells #[] 45)) := by
  have z := hb.size
  have z2 := hb2.size
  have hb3 : Below w2.heap.size w2 (w2.alloc (.cells #[] 45)) := below_one _
  refine ⟨[], [], ⟨fun b => w1.heap.size ≤ b ∧ b < w2.heap.size, fun b => b = w2.heap.size, h2.bound.below hb3, ⟨⟨World.ownsRow_made w2 #[] 0 (Nat.zero_le _) (Nat.zero_le _) rfl, fun b hx => ?_⟩, (fun p hp => by cases hp), List.Pairwise.nil⟩, ?_, ?_, ?_, ?_, ?_, ?_⟩, good_nil _, (hb.trans (hb2.mono z)).trans (hb3.mono (Nat.le_trans z z2)), Nat.le_refl _⟩
  · have := Option.some.inj hx
    exact this.symm
  · rintro b ⟨_, h1⟩ rfl
    omega
  · rintro b ⟨h1, _⟩ hF
    have : b < w.heap.size := hF
    omega
  · rintro b rfl hF
    have : w2.heap.size < w.heap.size := hF
    omega
  · rintro b ⟨_, h1⟩
    simp; omega
  · rintro b rfl
    simp
  · intro b hF
    have : b < w.heap.size := hF
    simp; omega
/-- The new object's words are being laid: from w5 on, the box at its end holds the address, the size, the row. -/
def Build (w5 : World) (a nn : Nat) (v : Value) (k : Nat) (wx : World) : Prop :=
  wx.heap[w5.heap.size]? = some (.cells #[.int .i64 (a : Int), .int .i64 (nn : Int), v] 45 (0, 0)) ∧ RowIn wx (fun b => w5.heap.size ≤ b) 30 1 v k (u64s (List.replicate k 1)) ∧ Below w5.heap.size w5 wx
theorem build_start (w5 : World) (a nn : Nat) : Build w5 a nn (.slice none 0 0) 0 (w5.alloc (.cells #[.int .i64 (a : Int), .int .i64 (nn : Int), .slice none 0 0] 45)) :=
  ⟨heap_alloc_new w5 _, ⟨World.ownsRow_nil _ _ _ _, fun b hx => by cases hx⟩, below_one _⟩
theorem build_next {w5 wx w4 : World} {a nn k : Nat} {v v1 : Value} {ob : Obj} (h : Build w5 a nn v k wx) (ho : w4.ownsRow 0 30 1 v1 (k + 1) (u64s (List.replicate k 1) ++ [.int .u64 1])) (hg : (wx.alloc ob).grownBy w4 v.ownBlock)
    (hat : v1.ownBlock = v.ownBlock ∨ v1.ownBlock = some (wx.alloc ob).heap.size) :
    w4.heap[w5.heap.size]? = some (.cells #[.int .i64 (a : Int), .int .i64 (nn : Int), v] 45 (0, 0)) ∧ Build w5 a nn v1 (k + 1) (w4.setCell ⟨w5.heap.size, 2, none⟩ v1) := by
  obtain ⟨h1, h2, h3⟩ := h
  have hz : wx.heap.size + 1 ≤ w4.heap.size := by have := hg.size; simpa using this
  have hpl := lt_of_heap h1
  have hne : v.ownBlock ≠ some w5.heap.size := fun hx => by
    obtain ⟨cur, hc⟩ := own_type h2.1 _ hx
    exact blocks_ne hc h1 (by decide) rfl
  have hb4 : ∀ b, b < wx.heap.size → v.ownBlock ≠ some b → w4.heap[b]? = wx.heap[b]? := fun b hl hn => by
    rw [hg.block b (by simp; omega) (fun e => hn e.symm), Below.heap_alloc wx _ b hl]
  have h4 := (hb4 _ hpl hne).trans h1
  have h41 : v1.ownBlock ≠ some w5.heap.size := fun hx => by
    obtain ⟨cur, hc⟩ := own_type ho _ hx
    exact blocks_ne hc h4 (by decide) rfl
  refine ⟨h4, ?_, ⟨?_, fun b hx => ?_⟩, ?_⟩
  · rw [heap_setCell_same w4 _ 2 _ _ _ h4]; rfl
  · have h9 : u64s (List.replicate (k + 1) 1) = u64s (List.replicate k 1) ++ [.int .u64 1] := by rw [List.replicate_succ']; simp [u64s]
    rw [h9]
    exact own_keep ho fun b hx => heap_setCell_other w4 _ b _ fun he => h41 (hx.trans (congrArg some he))
  · rcases hat with hh | hh
    · exact h2.2 b (hh.symm.trans hx)
    · rw [hh] at hx
      have := Option.some.inj hx
      simp at this
      have := h3.size
      show w5.heap.size ≤ b
      omega
  · have t1 : Below w5.heap.size w5 (wx.alloc ob) := h3.alloc h3.size _
    have t2 := t1.grown hg (by have := h3.size; simp; omega) (fun b hx => h2.2 b hx)
    exact t2.setCell (p := ⟨w5.heap.size, 2, none⟩) (Nat.le_refl _) _
theorem build_src (w : World) : ∀ t u, [Value.int IntKind.u64 1][t]? = some u → (w.alloc (.cells #[.int .u64 1] 30)).cell? ((⟨w.heap.size, 0, none⟩ : Addr).add t) = some u := cell_one_new _ _ _
theorem Apt.cells {F : Nat → Prop} {w : World} {q m n c : Nat} {L : List Ob} {A : Option Addr} {P : List (Ob × Value)} (h : Apt F w q m L (.slice A n c) P) :
    n = P.length ∧ ∀ (j : Nat) (p : Ob × Value), P[j]? = some p → ∃ g, A = some ⟨g, 0, none⟩ ∧ g < w.heap.size ∧ ¬ F g ∧ w.cell? ⟨g, j * 3, none⟩ = some (.int .i64 (p.1.at_ : Int)) ∧ w.cell? ⟨g, j * 3 + 1, none⟩ = some (.int .i64 (p.1.kind : Int)) ∧ w.cell? ⟨g, j * 3 + 2, none⟩ = some p.2 ∧
      ∃ Fs cf, p.2 = .slice Fs p.1.fs.length cf ∧ ∀ i, i < p.1.fs.length → ∃ f, Fs = some ⟨f, 0, none⟩ ∧ f < w.heap.size ∧ w.frozen? ⟨f, i, none⟩ = false ∧ w.cell? ⟨f, i, none⟩ = some (.int .u64 (p.1.fs.getD i 0 : Nat)) := by
  obtain ⟨A', c', he, hs⟩ := h.seen
  simp only [Value.slice.injEq] at he
  obtain ⟨rfl, h2, rfl⟩ := he
  exact ⟨h2, hs⟩
theorem Apt.own {F : Nat → Prop} {w : World} {q m : Nat} {L : List Ob} {v : Value} {P : List (Ob × Value)} (h : Apt F w q m L v P) : w.ownsRow 0 45 3 v P.length (obCells P) ∧ ∀ u ∈ obCells P, u.oneCell' = true := by
  obtain ⟨S, K, _, h2, _⟩ := h
  exact ⟨h2.row.1, obCells_one h2.flds⟩
theorem AptStep.then {F : Nat → Prop} {q m : Nat} {L L' : List Ob} {v v' : Value} {P P' : List (Ob × Value)} {a b c : World} (_h : AptStep F q m L v P a b) (k : AptStep F q m L' v' P' b c) : AptStep F q m L' v' P' a c := ⟨k.1, _h.2.trans k.2⟩
theorem Good.bound {L P : List Ob} {words : Nat} (h : Good L P) (hl : Lies words 1 L) : ∀ o ∈ P, 1 ≤ o.at_ ∧ o.at_ + o.kind < words := fun o ho => by
  obtain ⟨x, hx, he⟩ := h.there o ho
  have h1 := lies_mem words 1 L hl x (find_mem hx).1
  have h2 : x.next = o.at_ + 1 + o.fs.length := by unfold Ob.next; rw [(find_mem hx).2, he]
  have h3 := (find_mem hx).2
  have h4 := (h.size o ho).1
  omega
theorem Build.below {w5 wx wy : World} {a nn k : Nat} {v : Value} (h : Build w5 a nn v k wx) (hb : Below wx.heap.size wx wy) : Build w5 a nn v k wy :=
  ⟨(hb.block _ (lt_of_heap h.1)).trans h.1, h.2.1.keep fun b hl _ => hb.block b hl, h.2.2.trans (hb.mono h.2.2.size)⟩
theorem three_src (w : World) (a nn : Int) (v : Value) : ∀ t u, [Value.int .i64 a, Value.int .i64 nn, v][t]? = some u → (w.alloc (.cells #[.int .i64 a, .int .i64 nn, v] 45)).cell? ((⟨w.heap.size, 0, none⟩ : Addr).add t) = some u := fun t u hu => by
  rw [Addr.add_lit, Nat.zero_add, Lib.cell_of_heap (heap_alloc_new w _)]
  match t, hu with
  | 0, hu => exact hu
  | 1, hu => exact hu
  | 2, hu => exact hu
  | t + 3, hu => simp at hu
set_option maxRecDepth 100000 in
theorem apart_nil (words : Int) (A : Option Addr) (n c : Nat) (w : World) (hT : Tab w) (h : words < 2 ∨ 65536 < words) :
    Calls Tryd.prog 4 #[.int .i64 words, .slice A n c] w (YesMade true w) := by
  have HT := Lib.hid hT
  clear hT
  go_enter Tryd.func4, Tryd.ntmps4
  go_wp2_with fail
  refine (awake_any _ HT.out).mono ?_
  rintro e w1 ⟨rfl, hb⟩
  have HB := Lib.hid hb
  clear hb
  go_wp2_with fail
  refine (new_nil words _ h).mono ?_
  rintro e w' ⟨rfl, rfl⟩
  go_wp2_with fail
  go_ret
  exact ⟨rfl, HB.out⟩
theorem made_form {w w1 : World} {v : Value} {m z : Nat} {o : Obj} {xs : List Value} {e : TypeId} {size : Nat} (ho : w1.ownsRow 0 e size v (0 + m) ([] ++ xs)) (hn : v = .slice none 0 0 ↔ Value.slice (some ⟨z, 0, none⟩) 0 0 = .slice none 0 0 ∧ m = 0)
    (hat : v.ownBlock = (Value.slice (some ⟨z, 0, none⟩) 0 0).ownBlock ∨ v.ownBlock = some (w.alloc o).drew.heap.size) (hz : w.heap.size = z) : ∃ g k, v = .slice (some ⟨g, 0, none⟩) m k ∧ z ≤ g ∧ w1.ownsRow 0 e size (.slice (some ⟨g, 0, none⟩) m k) m xs := by
  rw [Nat.zero_add, List.nil_append] at ho
  rcases ho.2 with ⟨h, _⟩ | ⟨g', k', _, h, _⟩
  · have := (hn.1 h).1
    cases this
  · subst h
    refine ⟨g', k', rfl, ?_, ho⟩
    rcases hat with h9 | h9
    · have h9 := Option.some.inj h9
      have h9 : g' = z := h9
      omega
    · have h9 := Option.some.inj h9
      have h9 : g' = (w.alloc o).heap.size := h9
      simp at h9
      omega
theorem apart_b1 {w5 w6 : World} {o : Obj} (hg : (w5.alloc o).drew.grownBy w6 (Value.slice (some ⟨w5.heap.size, 0, none⟩) 0 0).ownBlock) : Below w5.heap.size w5 w6 := by
  have t1 : Below w5.heap.size w5 (w5.alloc o).drew := (below_one o).drew
  refine t1.grown hg (by show w5.heap.size ≤ (w5.alloc o).heap.size; simp) (fun b hx => ?_)
  have hx : w5.heap.size = b := Option.some.inj hx
  omega
theorem apart_b2 {w5 w6 w7 : World} {g1 n k : Nat} (hb : Below w5.heap.size w5 w6) (hg : w6.grownBy w7 (Value.slice (some ⟨g1, 0, none⟩) n k).ownBlock) (hz : w5.heap.size ≤ g1) : Below w5.heap.size w5 w7 :=
  hb.grown hg hb.size (fun b hx => by
    have hx : g1 = b := Option.some.inj hx
    omega)
theorem apart_b3 {w5 w6 : World} {g1 n k : Nat} {v2 : Value} (hb : Below w5.heap.size w5 w6) (hz : w5.heap.size ≤ g1) (hat : v2.ownBlock = (Value.slice (some ⟨g1, 0, none⟩) n k).ownBlock ∨ v2.ownBlock = some w6.heap.size) : ∀ b, v2.ownBlock = some b → w5.heap.size ≤ b := fun b hx => by
  have := hb.size
  rcases hat with h9 | h9
  · rw [h9] at hx
    have hx : g1 = b := Option.some.inj hx
    omega
  · rw [h9] at hx
    have hx := Option.some.inj hx
    omega
theorem idx_of (a : Int) (n : Nat) (h0 : 0 < n) (hn : n ≤ 4611686018427387904) : ∃ r : Nat, r < n ∧ wrap64 ((IntKind.u64.wrap a).tmod (n : Int)) = (r : Int) := by
  have h1 : 0 ≤ IntKind.u64.wrap a := by rw [IntKind.wrap_u64]; omega
  have h2 : 0 ≤ IntKind.u64.wrap a % (n : Int) := Int.emod_nonneg _ (by omega)
  have h3 : IntKind.u64.wrap a % (n : Int) < (n : Int) := Int.emod_lt_of_pos _ (by omega)
  refine ⟨(IntKind.u64.wrap a % (n : Int)).toNat, by omega, ?_⟩
  rw [Int.tmod_eq_emod_of_nonneg h1]
  unfold wrap64
  omega
end Go.Proofs.YtbmkjlpjgkfjcaaDoor
