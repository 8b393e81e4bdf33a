/-
  The walk of the document's own answer's Alloc.
-/
import Derived.Test.YtdkbgdjkdalalaaGreatDoorHRefNew
namespace Go.Proofs.YtdkbgdjkdalalaaGreatDoor
open Go.RowKit
theorem alloc_first (m k n p i : Nat) (L : List Ob) (hi : i ≤ L.length) (hlo : ∀ (j y : Nat), j < i → (gapsFrom m p L)[j]? = some y → y ≤ n) (y : Nat) (hy : (gapsFrom m p L)[i]? = some y) (hyn : n < y) :
    allocAt m k n p L = some (endOf p (L.take i), L.take i ++ newOb (endOf p (L.take i)) k n :: L.drop i) := by
  induction L generalizing p i with
  | nil =>
    obtain rfl : i = 0 := by simpa using hi
    have h1 : m - p = y := by simpa [gapsFrom] using hy
    unfold allocAt
    rw [if_pos (by omega)]
    rfl
  | cons o L ih =>
    cases i with
    | zero =>
      have h1 : o.at_ - p = y := by simpa [gapsFrom] using hy
      unfold allocAt
      rw [if_pos (by omega)]
      rfl
    | succ i =>
      have h0 := hlo 0 (o.at_ - p) (by omega) (by simp [gapsFrom])
      unfold allocAt
      rw [if_neg (by omega), ih o.next i (by simpa using hi) (fun j y hj h => hlo (j + 1) y (by omega) (by simpa [gapsFrom] using h)) (by simpa [gapsFrom] using hy)]
      rfl
theorem alloc_nogap (m k n p : Nat) (L : List Ob) (hlo : ∀ (j y : Nat), (gapsFrom m p L)[j]? = some y → y ≤ n) : allocAt m k n p L = none := by
  induction L generalizing p with
  | nil =>
    have h0 := hlo 0 (m - p) (by simp [gapsFrom])
    unfold allocAt
    rw [if_neg (by omega)]
  | cons o L ih =>
    have h0 := hlo 0 (o.at_ - p) (by simp [gapsFrom])
    unfold allocAt
    rw [if_neg (by omega), ih o.next (fun j y h => hlo (j + 1) y (by simpa [gapsFrom] using h))]
    rfl
/-- append to an owned row, whatever is added: a row that lies somewhere, or none. -/
theorem append_all {P : Program} (w : World) {ops : Array Oper} {rest : List Oper} {o : Oper} {a : Act} {Q : Exit → Act → World → Prop} (hgd : o.guard = none) (s x : Operand) (t : TypeId)
    (ho : o.op = .call { callee := .builtin .append, args := #[s, x], argTypes := #[t, t] })
    (base : Nat) (e : TypeId) (i : TypeInfo) (z : Value) (size bytes : Nat) (ht : P.underlying t = some (.slice e)) (hi : P.info? e = some i) (hz : i.zero = some z)
    (hsize : i.size = size) (hby : i.bytes = bytes) (hzs : z.cells.size = size) (hsz : 0 < size)
    (v : Value) (n : Nat) (xs : List Value) (hs : a.eval s = v) (hown : w.ownsRow base e size v n xs)
    (ao : Option Addr) (m c : Nat) (news : List Value) (hx : a.eval x = .slice ao m c) (hl : news.length = m * size)
    (hnews : (ao = none ∧ m = 0 ∧ c = 0 ∧ ∃ g k, v = .slice (some ⟨g, 0, none⟩) n k) ∨ ∃ ad, ao = some ad ∧ ∀ j u, news[j]? = some u → w.cell? (ad.add j) = some u) (h1 : ∀ u ∈ news, u.oneCell' = true)
    (h63 : n + m ≤ maxLen) (hbytes : (n + m) * bytes ≤ 140737488355328) (hbase : base ≤ w.heap.size)
    (h : ∀ v' w', w'.ownsRow base e size v' (n + m) (xs ++ news) → w.grownBy w' v.ownBlock → (v' = .slice none 0 0 ↔ v = .slice none 0 0 ∧ m = 0) → (v'.ownBlock = v.ownBlock ∨ v'.ownBlock = some w.heap.size) → wpList P ops Q rest (a.put o.dst v') w') :
    wpList P ops Q (o :: rest) a w := by
  rcases hnews with ⟨rfl, rfl, rfl, g, k, rfl⟩ | ⟨ad, rfl, hc⟩
  · have hn0 : news = [] := List.eq_nil_of_length_eq_zero (by simpa using hl)
    subst hn0
    refine wpList_plain hgd fun K hK' => ?_
    have hrun := run_append_owned_none (P := P) w base t o.type e i size ht hi _ n xs hown
    unfold Oper.wp
    simp [execOp, ho, resolve, invoke, builtin, hs, hx, hrun, Result.andThen]
    exact hK' _ _ (h _ w (by simpa using hown) (World.grownBy.refl _ _) (by simp) (.inl rfl))
  · exact wpList_append_own_at w hgd s x t ho base e i z size bytes ht hi hz hsize hby hzs hsz v n xs hs hown ad m c news hx hl hc h1 h63 hbytes hbase h
/-- All gaps ahead of place i are too short. -/
def Short (m n : Nat) (L : List Ob) (i : Nat) : Prop := ∀ (j y : Nat), j < i → (gapsFrom m 1 L)[j]? = some y → y ≤ n
def RAlloc (r : Nat) (S : Nat → Prop) (m : Nat) (q : Int × Int × List Ob) (w : World) (e : Ending) (w' : World) : Prop := e = .returned (.tuple #[.int .i64 q.1, .int .i64 q.2.1]) ∧ RStep r S m q.2.2 w w'
theorem RefAt.step {r : Nat} {S : Nat → Prop} {m : Nat} {L : List Ob} {w w' : World} (h : RefAt w r S m L) (hb : Below w.heap.size w w') : RStep r S m L w w' := ⟨(h.below hb).mono fun _ hS => .inl hS, Turned.of_below hb⟩
theorem hAlloc_kind {m : Nat} {L : List Ob} {k n : Int} (h : k < 1 ∨ 6 < k) : hAlloc m L k n = (0, 8, L) := by unfold hAlloc; rw [if_pos h]
theorem hAlloc_range {m : Nat} {L : List Ob} {k n : Int} (h : ¬ (k < 1 ∨ 6 < k)) (h2 : n < 0 ∨ 4096 < n) : hAlloc m L k n = (0, 2, L) := by unfold hAlloc; rw [if_neg h, if_pos h2]
theorem hAlloc_some {m k n a : Nat} {L L' : List Ob} (h : 1 ≤ k ∧ k ≤ 6) (h2 : n ≤ 4096) (h3 : allocAt m k n 1 L = some (a, L')) : hAlloc m L k n = ((a : Int), 0, L') := by
  unfold hAlloc; rw [if_neg (by omega), if_neg (by omega), Int.toNat_natCast, Int.toNat_natCast, h3]
theorem hAlloc_none {m k n : Nat} {L : List Ob} (h : 1 ≤ k ∧ k ≤ 6) (h2 : n ≤ 4096) (h3 : allocAt m k n 1 L = none) : hAlloc m L k n = (0, 6, L) := by
  unfold hAlloc; rw [if_neg (by omega), if_neg (by omega), Int.toNat_natCast, Int.toNat_natCast, h3]
theorem ref_Alloc_wrong (r : Nat) (S : Nat → Prop) (m : Nat) (L : List Ob) (k n : Int) (w : World) (h : RefAt w r S m L) (hw : (k < 1 ∨ 6 < k) ∨ (n < 0 ∨ 4096 < n)) :
    Calls Tryz.prog 68 #[.pointer (some ⟨r, 0, none⟩), .int .i64 k, .int .i64 n] w (RAlloc r S m (hAlloc m L k n) w) := by
  have H := Lib.hid h
  clear h
  by_cases hk : k < 1 ∨ 6 < k
  · have HV := Lib.hid (hAlloc_kind (m := m) (L := L) (n := n) hk)
    by_cases h1 : k < 1
    · have g1 : decide (k < 1) = true := by rw [decide_eq_true_iff]; omega
      clear hk hw
      go_enter Tryz.func68, Tryz.ntmps68
      go_wp2_with fail
      go_ret2
      exact ⟨by rw [HV.out]; rfl, by rw [HV.out]; exact RStep.stay H.out⟩
    · have g1 : decide (k < 1) = false := by rw [decide_eq_false_iff_not]; omega
      have g2 : decide (6 < k) = true := by rw [decide_eq_true_iff]; omega
      clear hk hw
      go_enter Tryz.func68, Tryz.ntmps68
      go_wp2_with fail
      go_ret2
      exact ⟨by rw [HV.out]; rfl, by rw [HV.out]; exact RStep.stay H.out⟩
  · have hn := hw.resolve_left hk
    have HV := Lib.hid (hAlloc_range (m := m) (L := L) hk hn)
    have g1 : decide (k < 1) = false := by rw [decide_eq_false_iff_not]; omega
    have g2 : decide (6 < k) = false := by rw [decide_eq_false_iff_not]; omega
    by_cases h1 : n < 0
    · have g3 : decide (n < 0) = true := by rw [decide_eq_true_iff]; omega
      clear hk hw hn
      go_enter Tryz.func68, Tryz.ntmps68
      go_wp2_with fail
      go_ret2
      exact ⟨by rw [HV.out]; rfl, by rw [HV.out]; exact RStep.stay H.out⟩
    · have g3 : decide (n < 0) = false := by rw [decide_eq_false_iff_not]; omega
      have g4 : decide (4096 < n) = true := by rw [decide_eq_true_iff]; omega
      clear hk hw hn
      go_enter Tryz.func68, Tryz.ntmps68
      go_wp2_with fail
      go_ret2
      exact ⟨by rw [HV.out]; rfl, by rw [HV.out]; exact RStep.stay H.out⟩
/-- The new object's own block, its fields being laid one after another. -/
def Laying (w : World) (q : Nat) (a k : Nat) (v : Value) (j : Nat) (wq : World) : Prop :=
  wq.heap[q]? = some (.cells #[.int .i64 (a : Int), .int .i64 (k : Int), v] 53 (0, 0)) ∧ wq.ownsRow 0 33 1 v j (u64s (List.replicate j 1)) ∧ (∀ g, v.ownBlock = some g → w.heap.size ≤ g) ∧ Below w.heap.size w wq ∧ w.heap.size ≤ q
theorem own_type {w : World} {e : TypeId} {size : Nat} {v : Value} {n : Nat} {xs : List Value} (h : w.ownsRow 0 e size v n xs) : ∀ g, v.ownBlock = some g → ∃ cur, w.heap[g]? = some (.cells cur e (0, 0)) := by
  intro g hg
  rcases h.2 with ⟨rfl, _⟩ | ⟨g', cap, cur, rfl, hr⟩
  · cases hg
  · obtain rfl : g' = g := by simpa [Value.ownBlock] using hg
    exact ⟨cur, hr.2.1⟩
theorem own_keep {w w' : World} {e : TypeId} {size : Nat} {v : Value} {n : Nat} {xs : List Value} (h : w.ownsRow 0 e size v n xs) (hk : ∀ g, v.ownBlock = some g → w'.heap[g]? = w.heap[g]?) : w'.ownsRow 0 e size v n xs := by
  refine ⟨h.1, ?_⟩
  rcases h.2 with hn | ⟨g, cap, cur, rfl, hr⟩
  · exact .inl hn
  · exact .inr ⟨g, cap, cur, rfl, hr.1, (hk g rfl).trans hr.2.1, hr.2.2⟩
theorem laying_next {w wq w' : World} {q a k j : Nat} {v v' : Value} (h : Laying w q a k v j wq) (ho : w'.ownsRow 0 33 1 v' (j + 1) (u64s (List.replicate j 1) ++ [.int .u64 1]))
    (hg : (wq.alloc (.cells #[.int .u64 1] 33)).grownBy w' v.ownBlock) (hat : v'.ownBlock = v.ownBlock ∨ v'.ownBlock = some (wq.alloc (.cells #[.int .u64 1] 33)).heap.size) :
    w'.heap[q]? = some (.cells #[.int .i64 (a : Int), .int .i64 (k : Int), v] 53 (0, 0)) ∧ Laying w q a k v' (j + 1) (w'.setCell ⟨q, 2, none⟩ v') := by
  obtain ⟨hq, hr, hb, hB, hwq⟩ := h
  have hql := lt_of_heap hq
  have hsz : (wq.alloc (.cells #[.int .u64 1] 33)).heap.size = wq.heap.size + 1 := by simp
  have hq' : w'.heap[q]? = some (.cells #[.int .i64 (a : Int), .int .i64 (k : Int), v] 53 (0, 0)) := by
    rw [hg.block q (by omega) (fun e => ?_), Below.heap_alloc wq _ q hql, hq]
    obtain ⟨cur, hc⟩ := own_type hr q e.symm
    exact blocks_ne hc hq (by decide) rfl
  have hBa : Below w.heap.size w (wq.alloc (.cells #[.int .u64 1] 33)) := hB.alloc hB.size _
  have hB' : Below w.heap.size w w' := hBa.grown hg (by have := hB.size; omega) (fun g hg' => hb g hg')
  refine ⟨hq', ?_, ?_, ?_, hB'.setCell (p := ⟨q, 2, none⟩) hwq _, hwq⟩
  · rw [heap_setCell_same w' q 2 _ _ v' hq']; rfl
  · rw [show u64s (List.replicate (j + 1) 1) = u64s (List.replicate j 1) ++ [.int .u64 1] by rw [List.replicate_succ']; simp [u64s]]
    refine own_keep ho fun g hgv => heap_setCell_other w' _ g v' ?_
    obtain ⟨cur, hc⟩ := own_type ho g hgv
    exact blocks_ne hc hq' (by decide)
  · intro g hgv
    rcases hat with h3 | h3
    · exact hb g (h3.symm.trans hgv)
    · rw [h3] at hgv
      have := Option.some.inj hgv
      have := hB.size
      omega
theorem Laying.below {w wq w' : World} {q a k j : Nat} {v : Value} (h : Laying w q a k v j wq) (hb : Below wq.heap.size wq w') : Laying w q a k v j w' := by
  obtain ⟨hq, hr, hbl, hB, hwq⟩ := h
  refine ⟨(hb.block q (lt_of_heap hq)).trans hq, own_keep hr fun g hg => hb.block g ?_, hbl, hB.trans (hb.mono hB.size), hwq⟩
  exact (World.ownsRow.lt hr g hg).2
/-- Where the row of objects lies: nowhere, being empty, or in a block. -/
def RowAt (w : World) (S : Nat → Prop) (P : List (Ob × Value)) (A : Option Addr) (c : Nat) : Prop :=
  (A = none ∧ c = 0 ∧ P = []) ∨ ∃ g, A = some ⟨g, 0, none⟩ ∧ g < w.heap.size ∧ P.length ≤ c ∧ RowIn w S 53 3 (.slice (some ⟨g, 0, none⟩) P.length c) P.length (obCells P)
theorem rowAt_of {w : World} {S : Nat → Prop} {P : List (Ob × Value)} {v : Value} (h : RowIn w S 53 3 v P.length (obCells P)) : ∃ A c, v = .slice A P.length c ∧ RowAt w S P A c := by
  rcases h.1.2 with ⟨rfl, h0⟩ | ⟨g, cap, cur, rfl, hr⟩
  · have hP : P = [] := List.eq_nil_of_length_eq_zero h0
    exact ⟨none, 0, by rw [h0], .inl ⟨rfl, rfl, hP⟩⟩
  · exact ⟨some ⟨g, 0, none⟩, cap, rfl, .inr ⟨g, rfl, (World.ownsRow.lt h.1 g rfl).2, hr.2.2.1, h⟩⟩
/-- The cells of a part of the row of objects, in a world that has grown. -/
theorem part_cells {w w' : World} {S : Nat → Prop} {P : List (Ob × Value)} {g c : Nat} (h : RowIn w S 53 3 (.slice (some ⟨g, 0, none⟩) P.length c) P.length (obCells P)) (hgl : g < w.heap.size) (hb : Below w.heap.size w w') (i : Nat) :
    (∀ t u, (obCells (P.take i))[t]? = some u → w'.cell? ((⟨g, 0, none⟩ : Addr).add t) = some u) ∧ ∀ ad : Addr, (P.length ≤ i ∨ ad = ⟨g, i * 3, none⟩) → ∀ t u, (obCells (P.drop i))[t]? = some u → w'.cell? (ad.add t) = some u := by
  refine ⟨fun t u hu => ?_, fun ad had t u hu => ?_⟩
  · rw [← obCells_take] at hu
    have h1 := World.ownsRow.cells h.1 (g := g) rfl t u (by rw [List.getElem?_take] at hu; split at hu; exact hu; cases hu)
    rw [Addr.add_lit] at h1 ⊢
    rw [hb.cell (p := ⟨g, 0 + t, none⟩) hgl]
    exact h1
  · have hj := (List.getElem?_eq_some_iff.1 hu).1
    rw [obCells_len, List.length_drop] at hj
    rcases had with had | rfl
    · omega
    · rw [← obCells_drop, List.getElem?_drop] at hu
      have h1 := World.ownsRow.cells h.1 (g := g) rfl _ u hu
      rw [Addr.add_lit] at h1
      rw [Addr.add_lit, hb.cell (p := ⟨g, i * 3 + t, none⟩) hgl]
      simpa using h1
set_option maxHeartbeats 4000000 in
set_option maxRecDepth 100000 in
theorem ref_Alloc_right (r : Nat) (S : Nat → Prop) (m : Nat) (L : List Ob) (k n : Nat) (w : World) (h : RefAt w r S m L) (hl : Lies m 1 L) (hm : m ≤ 65536) (hL : L.length ≤ 65536) (hk : 1 ≤ k ∧ k ≤ 6) (hn : n ≤ 4096) :
    Calls Tryz.prog 68 #[.pointer (some ⟨r, 0, none⟩), .int .i64 (k : Int), .int .i64 (n : Int)] w (RAlloc r S m (hAlloc m L (k : Int) (n : Int)) w) := by
  obtain ⟨i0, hi0, hz0, hz1, hz2⟩ := info_parts infoObj
  obtain ⟨j0, hj0, jz0, jz1, jz2⟩ := info_parts info30
  have hrl := h.lt
  have H := Lib.hid h
  have HL := Lib.hid hl
  obtain ⟨hSr, vh, P, hP, hd, hrow, hfl⟩ := h
  obtain ⟨A, c, rfl, hrat⟩ := rowAt_of hrow
  have hPL : P.length = L.length := by rw [← hP, List.length_map]
  have c1 : w.cell? ⟨r, 1, none⟩ = some (.slice A L.length c) := by rw [Lib.cell_of_heap hd, ← hPL]; rfl
  have HD := Lib.hid hd
  have HRA := Lib.hid hrat
  have HF := Lib.hid hfl
  have HP := Lib.hid hP
  clear hd hrat hfl hP hrow
  have g1 : decide ((k : Int) < 1) = false := by rw [decide_eq_false_iff_not]; omega
  have g2 : decide (6 < (k : Int)) = false := by rw [decide_eq_false_iff_not]; omega
  have g3 : decide ((n : Int) < 0) = false := by rw [decide_eq_false_iff_not]; omega
  have g4 : decide (4096 < (n : Int)) = false := by rw [decide_eq_false_iff_not]; omega
  clear hl
  go_enter Tryz.func68, Tryz.ntmps68
  go_wp2_with fail
  go_loopw [8] (fun vi wr => ∃ i : Nat, i ≤ L.length + 1 ∧ vi = .int .i64 i ∧ Hid (Short m n L i) ∧ Hid (Below w.heap.size w wr)) (fun vi _ => L.length + 1 - (intOf vi).toNat)
  case atStart => exact ⟨0, by omega, by go_num, Lib.hid (fun j y hj => by omega), Lib.hid (Below.refl _ _)⟩
  case round =>
    obtain ⟨i, hi1, rfl, HN, HB⟩ := hrel
    have d1 := (HB.out.cell (p := ⟨r, 1, none⟩) hrl).trans c1
    have hsz := HB.out.size
    by_cases hi : i ≤ L.length
    · have g5 : decide ((i : Int) ≤ (L.length : Int)) = true := by rw [decide_eq_true_iff]; omega
      have hg := gaps_at m 1 i L hi
      have HG := Lib.hid (ref_gap r S m L i _ (H.out.below HB.out) HL.out hm hL hi)
      have hfirst := alloc_first m k n 1 i L hi HN.out _ hg
      have hord := gap_order HL.out hi
      have HGA := Lib.hid hg
      clear hg
      generalize gapTo m L i - endOf 1 (L.take i) = x at *
      generalize endOf 1 (L.take i) = y at *
      go_wp2_with fail
      refine HG.out.mono ?_
      rintro e w2 ⟨rfl, hb2⟩
      have hb2' := HB.out.trans (hb2.mono hsz)
      have HB2 := Lib.hid hb2'
      have e1 := (hb2'.cell (p := ⟨r, 1, none⟩) hrl).trans c1
      clear hb2 hb2'
      by_cases hnx : n < x
      · have B1 : decide ((n : Int) < (x : Int)) = true := by rw [decide_eq_true_iff]; omega
        have HV := Lib.hid (hAlloc_some hk hn (hfirst hnx))
        clear hfirst
        have HLY : Hid (Laying w w2.heap.size y k (.slice none 0 0) 0 (w2.alloc (.cells #[.int .i64 (y : Int), .int .i64 (k : Int), .slice none 0 0] 53))) :=
          Lib.hid ⟨heap_alloc_new w2 _, World.ownsRow_nil _ _ _ _, (fun g hg => by simp [Value.ownBlock] at hg), HB2.out.alloc HB2.out.size _, HB2.out.size⟩
        go_upto_region 11 with fail
        generalize w2.alloc (.cells #[.int .i64 (y : Int), .int .i64 (k : Int), .slice none 0 0] 53) = w3 at *
        generalize w2.heap.size = q at *
        go_wp2_with fail
        go_loopw [12] (fun vj wq => ∃ (j : Nat) (v : Value), j ≤ n ∧ vj = .int .i64 j ∧ Hid (Laying w q y k v j wq)) (fun vj _ => n - (intOf vj).toNat)
        case atStart => exact ⟨0, .slice none 0 0, by omega, by go_num, HLY⟩
        case round =>
          obtain ⟨j, v, hjn, rfl, HLJ⟩ := hrel
          clear HLY
          by_cases hj : j < n
          · have g6 : decide ((j : Int) < (n : Int)) = true := by rw [decide_eq_true_iff]; omega
            have hly := HLJ.out
            obtain ⟨hq, hr, hb, hB, hwq⟩ := hly
            have f2 : wr.cell? ⟨q, 2, none⟩ = some v := by rw [Lib.cell_of_heap hq]; rfl
            have hql := lt_of_heap hq
            have hown : Hid ((wr.alloc (.cells #[.int .u64 1] 33)).ownsRow 0 33 1 v j (u64s (List.replicate j 1))) := Lib.hid (hr.alloc _)
            have hsrc : Hid (∀ t u, [Value.int IntKind.u64 1][t]? = some u → (wr.alloc (.cells #[.int .u64 1] 33)).cell? ((⟨wr.heap.size, 0, none⟩ : Addr).add t) = some u) := Lib.hid (fun t u hu => by
              cases t with
              | zero => rw [show (⟨wr.heap.size, 0, none⟩ : Addr).add 0 = ⟨wr.heap.size, 0, none⟩ from rfl, Lib.cell_of_heap (heap_alloc_new wr _)]; exact hu
              | succ t => simp at hu)
            have hone : Hid (∀ u ∈ [Value.int IntKind.u64 1], u.oneCell' = true) := Lib.hid (by decide)
            clear hq hr hb hB hwq
            go_wp2_with (at_builtin; refine wpList_append_own_at _ rfl (.tmp 53) (.tmp 54) 28 rfl 0 33 j0 _ 1 8 Tryz.underlying28 hj0 jz0 jz1 jz2 rfl (by decide) _ _ _ rfl hown.out ⟨wr.heap.size, 0, none⟩ 1 1 [.int .u64 1] rfl rfl hsrc.out hone.out (by unfold maxLen; omega) (by omega) (Nat.zero_le _) ?_)
            intro v1 w4 hown1 hgr1 hnn1 hat1
            obtain ⟨f1, k1, rfl⟩ : ∃ f1 k1, v1 = .slice (some ⟨f1, 0, none⟩) (j + 1) k1 := by
              rcases hown1.2 with ⟨h, _⟩ | ⟨g', k', _, h, _⟩
              · exact (hnn1 h).elim
              · exact ⟨g', k', h⟩
            obtain ⟨hq4, hly1⟩ := laying_next HLJ.out hown1 hgr1 (by simpa using hat1)
            have HL1 := Lib.hid hly1
            have f3 : w4.cell? ⟨q, 2, none⟩ = some v := by rw [Lib.cell_of_heap hq4]; rfl
            have f4 : w4.frozen? ⟨q, 2, none⟩ = false := Lib.frozen_of_heap hq4 2
            clear hown1 hgr1 hnn1 hat1 hly1 hq4 hown hsrc hone
            go_wp2_with fail
            go_roundw
            case rel => exact ⟨j + 1, _, by omega, by go_num, HL1⟩
            case measure => simp [intOf]; omega
          · have g6 : decide ((j : Int) < (n : Int)) = false := by rw [decide_eq_false_iff_not]; omega
            obtain rfl : j = n := by omega
            have HBL : Hid (Below w.heap.size w wr) := Lib.hid HLJ.out.2.2.2.1
            have hwz := HBL.out.size
            have hrw : r < wr.heap.size := by omega
            have m1 := (HBL.out.cell (p := ⟨r, 1, none⟩) hrl).trans c1
            have hlenT : (obCells (P.take i)).length = i * 3 := by rw [obCells_len, List.length_take, Nat.min_eq_left (by omega)]
            have hlenD : (obCells (P.drop i)).length = (L.length - i) * 3 := by rw [obCells_len, List.length_drop, hPL]
            have hone1 : Hid (∀ u ∈ obCells (P.take i), u.oneCell' = true) := Lib.hid (obCells_one fun p hp => HF.out p (List.mem_of_mem_take hp))
            have hone2 : Hid (∀ u ∈ obCells (P.drop i), u.oneCell' = true) := Lib.hid (obCells_one fun p hp => HF.out p (List.mem_of_mem_drop hp))
            have hown0 : Hid ((wr.alloc (.cells #[] 53)).ownsRow 0 53 3 (.slice (some ⟨wr.heap.size, 0, none⟩) 0 0) 0 []) := Lib.hid (World.ownsRow_made wr #[] 0 (Nat.zero_le _) (Nat.zero_le _) rfl)
            rcases HRA.out with ⟨rfl, rfl, hP0⟩ | ⟨g, rfl, hgl, hPc, hrowP⟩
            · have hP1 : P.length = 0 := by rw [hP0]; rfl
              have hL0 : L.length = 0 := by omega
              have hi0' : i = 0 := by omega
              rw [hL0] at m1
              go_upto_region 16 with fail
              have hown5 := hown0.out
              have hB6 : Below wr.heap.size wr (wr.alloc (.cells #[] 53)) := (Below.refl _ wr).alloc (Nat.le_refl _) _
              clear hown0
              generalize wr.alloc (.cells #[] 53) = w6 at *
              have HL6 := HLJ.out.below hB6
              obtain ⟨F, cf, rfl⟩ : ∃ F cf, v = .slice F j cf := by
                rcases HLJ.out.2.1.2 with ⟨h, h0⟩ | ⟨g', k', _, h, _⟩
                · exact ⟨none, 0, by rw [h, h0]⟩
                · exact ⟨_, k', h⟩
              have hq6 := HL6.1
              have f0 : w6.cell? ⟨q, 0, none⟩ = some (.int .i64 (y : Int)) := by rw [Lib.cell_of_heap hq6]; rfl
              have f1 : w6.cell? ⟨q, 1, none⟩ = some (.int .i64 (k : Int)) := by rw [Lib.cell_of_heap hq6]; rfl
              have f2 : w6.cell? ⟨q, 2, none⟩ = some (.slice F j cf) := by rw [Lib.cell_of_heap hq6]; rfl
              have hq6l := lt_of_heap hq6
              have HB6 := Lib.hid hB6
              have hown6 : Hid ((w6.alloc (.cells #[.int .i64 (y : Int), .int .i64 (k : Int), .slice F j cf] 53)).ownsRow 0 53 3 (.slice (some ⟨wr.heap.size, 0, none⟩) 0 0) 0 []) := Lib.hid (hown5.alloc _)
              have hsrc6 : Hid (∀ t u, (obCells [(newOb y k j, .slice F j cf)])[t]? = some u → (w6.alloc (.cells #[.int .i64 (y : Int), .int .i64 (k : Int), .slice F j cf] 53)).cell? ((⟨w6.heap.size, 0, none⟩ : Addr).add t) = some u) := Lib.hid (fun t u hu => by
                rw [Addr.add_lit, Lib.cell_of_heap (heap_alloc_new w6 _), Nat.zero_add, ← Array.getElem?_toList]
                exact hu)
              have hone6 : Hid (∀ u ∈ obCells [(newOb y k j, Value.slice F j cf)], u.oneCell' = true) := Lib.hid (fun u hu => by
                simp only [obCells, List.mem_cons, List.not_mem_nil, or_false] at hu
                rcases hu with rfl | rfl | rfl <;> rfl)
              clear hown5 hB6 HL6 hq6 hone1
              go_wp2_with (at_builtin; refine wpList_append_own_at _ rfl (.tmp 65) (.tmp 67) 54 rfl 0 53 i0 _ 3 40 Tryz.underlying54 hi0 hz0 hz1 hz2 rfl (by decide) _ _ _ rfl hown6.out ⟨w6.heap.size, 0, none⟩ 1 1 (obCells [(newOb y k j, .slice F j cf)]) rfl rfl hsrc6.out hone6.out (by unfold maxLen; omega) (by omega) (Nat.zero_le _) ?_)
              intro v7 w7 hown7 hgr7 hnn7 hat7
              obtain ⟨g7, k7, rfl⟩ : ∃ g7 k7, v7 = .slice (some ⟨g7, 0, none⟩) 1 k7 := by
                rcases hown7.2 with ⟨h, _⟩ | ⟨g', k', _, h, _⟩
                · exact (hnn7 h).elim
                · exact ⟨g', k', h⟩
              have hB7 : Below wr.heap.size wr w7 := (HB6.out.alloc HB6.out.size (.cells #[.int .i64 (y : Int), .int .i64 (k : Int), .slice F j cf] 53)).grown hgr7 (by have := HB6.out.size; simp; omega) (fun t ht => (show wr.heap.size ≤ t from (show wr.heap.size = t by simpa [Value.ownBlock] using ht) ▸ Nat.le_refl _))
              have hX7 : wr.heap.size ≤ g7 := by
                have := HB6.out.size
                simp [Value.ownBlock] at hat7
                omega
              have hBw := HBL.out.trans (hB7.mono hwz)
              have hlay := HLJ.out.below hB7
              have hfin := ref_close (P := [(newOb y k j, Value.slice F j cf)]) hSr HD.out hBw hown7 (fun t ht => (show w.heap.size ≤ t from (show g7 = t by simpa [Value.ownBlock] using ht) ▸ Nat.le_trans hwz hX7)) (fun p hp => by
                obtain rfl : p = (newOb y k j, Value.slice F j cf) := by simpa using hp
                refine ⟨?_, fun t ht => .inr (hlay.2.2.1 t ht)⟩
                show w7.ownsRow 0 33 1 (.slice F j cf) (List.replicate j 1).length (u64s (List.replicate j 1))
                rw [List.length_replicate]
                exact hlay.2.1)
              obtain ⟨_, _, _, hk7, _⟩ := own_open hown7
              have hL1 : L = [] := List.eq_nil_of_length_eq_zero hL0
              have hmap : L.take i ++ newOb y k j :: L.drop i = [(newOb y k j, Value.slice F j cf)].map (·.1) := by rw [hL1]; simp
              rw [← hmap] at hfin
              have HFIN := Lib.hid hfin
              have hd8 := (hBw.block r hrl).trans HD.out
              have c8 : w7.cell? ⟨r, 1, none⟩ = some (.slice none 0 0) := by rw [Lib.cell_of_heap hd8, hP0]; rfl
              have fz : w7.frozen? ⟨r, 1, none⟩ = false := Lib.frozen_of_heap hd8 1
              clear hown7 hgr7 hnn7 hat7 hown6 hsrc6 hone6 hB7 hBw hlay hmap hfin hd8 hL1 hone2
              go_wp2_with fail
              go_ret2
              exact ⟨by rw [HV.out]; rfl, by rw [HV.out]; exact HFIN.out⟩
            · have HRP := Lib.hid hrowP
              have hsrc1 := Lib.hid (part_cells hrowP hgl (HBL.out.alloc hwz (.cells #[] 53)) i).1
              rw [hPL] at hPc
              have hic : i ≤ c := by omega
              clear hrowP
              go_wp2_with (at_builtin; refine append_all _ rfl (.tmp 57) (.tmp 63) 54 rfl 0 53 i0 _ 3 40 Tryz.underlying54 hi0 hz0 hz1 hz2 rfl (by decide) _ _ _ rfl hown0.out (some ⟨g, 0, none⟩) i c (obCells (P.take i)) rfl hlenT (.inr ⟨_, rfl, hsrc1.out⟩) hone1.out (by unfold maxLen; omega) (by omega) (Nat.zero_le _) ?_)
              intro v5 w6 hown5 hgr5 hnn5 hat5
              obtain ⟨g6, k6, rfl⟩ : ∃ g6 k6, v5 = .slice (some ⟨g6, 0, none⟩) i k6 := by
                rcases hown5.2 with ⟨h, _⟩ | ⟨g', k', _, h, _⟩
                · exact (hnn5 h).elim
                · exact ⟨g', k', h⟩
              have hB6 := below_of_grown hgr5
              have hX6 : wr.heap.size ≤ g6 := by simp [Value.ownBlock] at hat5; omega
              have HL6 := HLJ.out.below hB6
              obtain ⟨F, cf, rfl⟩ : ∃ F cf, v = .slice F j cf := by
                rcases HLJ.out.2.1.2 with ⟨h, h0⟩ | ⟨g', k', _, h, _⟩
                · exact ⟨none, 0, by rw [h, h0]⟩
                · exact ⟨_, k', h⟩
              have hq6 := HL6.1
              have f0 : w6.cell? ⟨q, 0, none⟩ = some (.int .i64 (y : Int)) := by rw [Lib.cell_of_heap hq6]; rfl
              have f1 : w6.cell? ⟨q, 1, none⟩ = some (.int .i64 (k : Int)) := by rw [Lib.cell_of_heap hq6]; rfl
              have f2 : w6.cell? ⟨q, 2, none⟩ = some (.slice F j cf) := by rw [Lib.cell_of_heap hq6]; rfl
              have hq6l := lt_of_heap hq6
              have HB6 := Lib.hid hB6
              have hown6 : Hid ((w6.alloc (.cells #[.int .i64 (y : Int), .int .i64 (k : Int), .slice F j cf] 53)).ownsRow 0 53 3 (.slice (some ⟨g6, 0, none⟩) i k6) i (obCells (P.take i))) := Lib.hid (hown5.alloc _)
              have hsrc6 : Hid (∀ t u, (obCells [(newOb y k j, .slice F j cf)])[t]? = some u → (w6.alloc (.cells #[.int .i64 (y : Int), .int .i64 (k : Int), .slice F j cf] 53)).cell? ((⟨w6.heap.size, 0, none⟩ : Addr).add t) = some u) := Lib.hid (fun t u hu => by
                rw [Addr.add_lit, Lib.cell_of_heap (heap_alloc_new w6 _), Nat.zero_add, ← Array.getElem?_toList]
                exact hu)
              have hone6 : Hid (∀ u ∈ obCells [(newOb y k j, Value.slice F j cf)], u.oneCell' = true) := Lib.hid (fun u hu => by
                simp only [obCells, List.mem_cons, List.not_mem_nil, or_false] at hu
                rcases hu with rfl | rfl | rfl <;> rfl)
              clear hown5 hgr5 hnn5 hat5 hB6 HL6 hq6 hown0 hsrc1 hone1
              go_wp2_with (at_builtin; refine wpList_append_own_at _ rfl (.tmp 65) (.tmp 67) 54 rfl 0 53 i0 _ 3 40 Tryz.underlying54 hi0 hz0 hz1 hz2 rfl (by decide) _ _ _ rfl hown6.out ⟨w6.heap.size, 0, none⟩ 1 1 (obCells [(newOb y k j, .slice F j cf)]) rfl rfl hsrc6.out hone6.out (by unfold maxLen; omega) (by omega) (Nat.zero_le _) ?_)
              intro v7 w7 hown7 hgr7 hnn7 hat7
              obtain ⟨g7, k7, rfl⟩ : ∃ g7 k7, v7 = .slice (some ⟨g7, 0, none⟩) (i + 1) k7 := by
                rcases hown7.2 with ⟨h, _⟩ | ⟨g', k', _, h, _⟩
                · exact (hnn7 h).elim
                · exact ⟨g', k', h⟩
              have hB7 : Below wr.heap.size wr w7 := (HB6.out.alloc HB6.out.size (.cells #[.int .i64 (y : Int), .int .i64 (k : Int), .slice F j cf] 53)).grown hgr7 (by have := HB6.out.size; simp; omega) (fun t ht => (show wr.heap.size ≤ t from (show g6 = t by simpa [Value.ownBlock] using ht) ▸ hX6))
              have hX7 : wr.heap.size ≤ g7 := by
                have := HB6.out.size
                simp [Value.ownBlock] at hat7
                omega
              have hown7' : Hid (w7.ownsRow 0 53 3 (.slice (some ⟨g7, 0, none⟩) (i + 1) k7) (i + 1) (obCells (P.take i ++ [(newOb y k j, .slice F j cf)]))) := Lib.hid (by rw [obCells_append]; exact hown7)
              have m7 := (hB7.cell (p := ⟨r, 1, none⟩) hrw).trans m1
              have hsrc7 := Lib.hid (part_cells HRP.out hgl (HBL.out.trans (hB7.mono hwz)) i).2
              have HB7 := Lib.hid hB7
              have hbz : ((i + 1 + (L.length - i)) * 40 ≤ 140737488355328) := by omega
              have hsz7 := hB7.size
              clear hown7 hgr7 hnn7 hat7 hown6 hsrc6 hone6 hB7
              go_upto_region 17 with fail
              go_wp2_with (at_builtin; refine append_any _ rfl (.tmp 70) (.tmp 76) 54 rfl 0 53 i0 _ 3 40 Tryz.underlying54 hi0 hz0 hz1 hz2 rfl (by decide) _ _ _ rfl hown7'.out _ _ _ (obCells (P.drop i)) rfl ?_ ?_ hone2.out (by unfold maxLen; omega) ?_ (Nat.zero_le _) ?_)
              · exact hlenD
              · intro t u hu
                have h3 := hsrc7.out ⟨g, 0, none⟩ (.inl (by omega)) t u hu
                rw [Addr.add_lit] at h3
                simpa using h3
              · intro t u hu
                have h3 := hsrc7.out ⟨g, i * 3, none⟩ (.inr rfl) t u hu
                rw [Addr.add_lit] at h3
                exact h3
              · exact hbz
              all_goals
                intro v8 w8 hown8 hgr8 hnn8 hat8
                obtain ⟨g8, n8, k8, rfl⟩ : ∃ g8 n8 k8, v8 = .slice (some ⟨g8, 0, none⟩) n8 k8 := by
                  rcases hown8.2 with ⟨h, _⟩ | ⟨g', k', _, h, _⟩
                  · exact (hnn8 h).elim
                  · exact ⟨g', _, k', h⟩
                have hB8 : Below wr.heap.size wr w8 := HB7.out.grown hgr8 HB7.out.size (fun t ht => (show wr.heap.size ≤ t from (show g7 = t by simpa [Value.ownBlock] using ht) ▸ hX7))
                have hBw := HBL.out.trans (hB8.mono hwz)
                have hblk : ∀ t, (Value.slice (some ⟨g8, 0, none⟩) n8 k8).ownBlock = some t → w.heap.size ≤ t := fun t ht => by
                  rcases hat8 with h3 | h3
                  · rw [h3] at ht; simp [Value.ownBlock] at ht; omega
                  · rw [h3] at ht; have := Option.some.inj ht; omega
                have hlenP : (P.take i ++ (newOb y k j, Value.slice F j cf) :: P.drop i).length = i + 1 + (L.length - i) := by rw [List.length_append, List.length_cons, List.length_take, List.length_drop, hPL, Nat.min_eq_left (by omega)]; omega
                rw [← obCells_append, List.append_assoc, ← hlenP] at hown8
                have hmap : (P.take i ++ (newOb y k j, Value.slice F j cf) :: P.drop i).map (·.1) = L.take i ++ newOb y k j :: L.drop i := by rw [← HP.out, List.map_append, List.map_cons, List.map_take, List.map_drop]
                have hlay := HLJ.out.below hB8
                have hfin := ref_close hSr HD.out hBw hown8 hblk (fun p hp => by
                  rcases List.mem_append.1 hp with hp | hp
                  · exact FieldsIn.below HF.out hBw p (List.mem_of_mem_take hp)
                  · rcases List.mem_cons.1 hp with rfl | hp
                    · refine ⟨?_, fun t ht => .inr (hlay.2.2.1 t ht)⟩
                      show w8.ownsRow 0 33 1 (.slice F j cf) (List.replicate j 1).length (u64s (List.replicate j 1))
                      rw [List.length_replicate]
                      exact hlay.2.1
                    · exact FieldsIn.below HF.out hBw p (List.mem_of_mem_drop hp))
                rw [hmap] at hfin
                have HFIN := Lib.hid hfin
                have hd8 := (hBw.block r hrl).trans HD.out
                have c8 : w8.cell? ⟨r, 1, none⟩ = some (.slice (some ⟨g, 0, none⟩) P.length c) := by rw [Lib.cell_of_heap hd8]; rfl
                have fz : w8.frozen? ⟨r, 1, none⟩ = false := Lib.frozen_of_heap hd8 1
                clear hown8 hgr8 hnn8 hat8 hB8 hBw hblk hlenP hmap hfin hd8 hown7' hsrc7 hone2 hlay
                go_wp2_with fail
                go_ret2
                exact ⟨by rw [HV.out]; rfl, by rw [HV.out]; exact HFIN.out⟩
      · have B1 : decide ((n : Int) < (x : Int)) = false := by rw [decide_eq_false_iff_not]; omega
        have HN1 : Hid (Short m n L (i + 1)) := Lib.hid (fun j y' hj hy' => by
          by_cases hji : j = i
          · subst hji
            have := HGA.out
            rw [this] at hy'
            injection hy' with hy'
            omega
          · exact HN.out j y' (by omega) hy')
        clear hfirst
        go_wp2_with fail
        go_roundw
        case rel => exact ⟨i + 1, by omega, by go_num, HN1, HB2⟩
        case measure => simp [intOf]; omega
    · have g5 : decide ((i : Int) ≤ (L.length : Int)) = false := by rw [decide_eq_false_iff_not]; omega
      have hie : i = L.length + 1 := by omega
      have HV := Lib.hid (hAlloc_none (m := m) (L := L) hk hn (alloc_nogap m k n 1 L fun j y hy => HN.out j y (by have := (List.getElem?_eq_some_iff.1 hy).1; rw [gaps_len] at this; omega) hy))
      clear hie
      go_wp2_with fail
      go_ret2
      exact ⟨by rw [HV.out]; rfl, by rw [HV.out]; exact H.out.step HB.out⟩
theorem ref_Alloc (r : Nat) (S : Nat → Prop) (m : Nat) (L : List Ob) (k n : Int) (w : World) (h : RefAt w r S m L) (hl : Lies m 1 L) (hm : m ≤ 65536) (hL : L.length ≤ 65536) :
    Calls Tryz.prog 68 #[.pointer (some ⟨r, 0, none⟩), .int .i64 k, .int .i64 n] w (RAlloc r S m (hAlloc m L k n) w) := by
  by_cases h1 : (k < 1 ∨ 6 < k) ∨ (n < 0 ∨ 4096 < n)
  · exact ref_Alloc_wrong r S m L k n w h h1
  · obtain ⟨a, rfl⟩ := Int.eq_ofNat_of_zero_le (show 0 ≤ k by omega)
    obtain ⟨b, rfl⟩ := Int.eq_ofNat_of_zero_le (show 0 ≤ n by omega)
    exact ref_Alloc_right r S m L a b w h hl hm hL (by omega) (by omega)
end Go.Proofs.YtdkbgdjkdalalaaGreatDoor
