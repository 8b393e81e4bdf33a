/-
  Laws of the model's copy, clear and append at a row that the call itself has made, of elements of any number of cells, for a plain statement and for one whose order is open.
-/
import Derived.Test.YtdkbgdjkdalalaaGreatDoorRows
import Derived.WalkKit
import Derived.Lib.Hide
import Derived.Laws.CopyRow
import Derived.Laws.OwnMore
import Derived.Maps.AppendAt
import Derived.Lib.AppendZeros
import Derived.Deep.RegionLaw
namespace Go.Proofs.YtdkbgdjkdalalaaGreatDoor
open Go.RowKit
section
variable {P : Program} {w : World} {b e size g n cap : Nat} {xs : List Value}
/-- The elements behind a store of cells vs from cell o on: n' elements ys, as they are read. -/
def Spliced (size n n' : Nat) (xs : List Value) (o : Nat) (vs ys : List Value) : Prop :=
  ys.length = n' * size ∧ ∀ j, j < n' * size → (o ≤ j ∧ j < o + vs.length ∧ ys[j]? = vs[j - o]?) ∨ ((j < o ∨ o + vs.length ≤ j) ∧ j < n * size ∧ ys[j]? = xs[j]?)
/-- What a store of cells into an owned row leaves. -/
def After (w w' : World) (b e size g n cap : Nat) (xs : List Value) (o : Nat) (vs : List Value) : Prop :=
  w.grownBy w' (some g) ∧ ∀ n' ys, n' ≤ cap → Spliced size n n' xs o vs ys → w'.ownsRow b e size (.slice (some ⟨g, 0, none⟩) n' cap) n' ys
theorem own_open (h : w.ownsRow b e size (.slice (some ⟨g, 0, none⟩) n cap) n xs) :
    ∃ cur, b ≤ g ∧ w.heap[g]? = some (.cells cur e (0, 0)) ∧ n ≤ cap ∧ cap ≤ maxLen ∧ cur.size = cap * size ∧ cur.toList.take (n * size) = xs := by
  rcases h.2 with ⟨he, _⟩ | ⟨g', cap', cur, he, hr⟩
  · simp at he
  · simp only [Value.slice.injEq, Option.some.injEq, Addr.mk.injEq, and_true, true_and] at he
    obtain ⟨rfl, rfl⟩ := he
    exact ⟨cur, hr⟩
theorem own_cut (h : w.ownsRow b e size (.slice (some ⟨g, 0, none⟩) n cap) n xs) (i : Nat) (hi : i ≤ n) : w.ownsRow b e size (.slice (some ⟨g, 0, none⟩) i cap) i (xs.take (i * size)) := by
  obtain ⟨cur, h1, h2, h3, h4, h5, h6⟩ := own_open h
  have hm : i * size ≤ n * size := Nat.mul_le_mul_right _ hi
  refine ⟨by rw [List.length_take, h.1]; omega, .inr ⟨g, cap, cur, rfl, h1, h2, by omega, h4, h5, ?_⟩⟩
  rw [← h6, List.take_take, Nat.min_eq_left hm]
theorem own_store (h : w.ownsRow b e size (.slice (some ⟨g, 0, none⟩) n cap) n xs) (o : Nat) (vs : List Value) (hfit : o + vs.length ≤ cap * size) (h1 : ∀ v ∈ vs, v.oneCell' = true) :
    ∃ w', (storeCells ⟨g, o, none⟩ vs).run P w = .ok () w' ∧ After w w' b e size g n cap xs o vs := by
  obtain ⟨cur, hb, hg, hn, hc, hs, ht⟩ := own_open h
  have hr := run_storeCells_at P g o e vs 0 cur w hg (by omega) h1
  refine ⟨_, hr, ⟨rfl, rfl, rfl, by simp, fun k _ hk => setRow_other w g k _ (fun e => hk (by rw [e]))⟩, fun n' ys hn' hy => ⟨hy.1, .inr ⟨g, cap, _, rfl, hb, setRow_heap w g cur _ e _ hg, hn', hc, ?_, ?_⟩⟩⟩
  · simp only [Nat.add_zero, List.size_toArray, List.length_append, List.length_take, List.length_drop, Array.length_toList]
    omega
  · apply List.ext_getElem?
    intro j
    have hle : n' * size ≤ cap * size := Nat.mul_le_mul_right _ hn'
    by_cases hj : j < n' * size
    · have hget : (cur.toList.take (o + 0) ++ vs ++ cur.toList.drop (o + 0 + vs.length))[j]? = if j < o then cur.toList[j]? else if j < o + vs.length then vs[j - o]? else cur.toList[j]? := by
        simp only [Nat.add_zero]
        have hlen : (cur.toList.take o).length = o := by rw [List.length_take, Array.length_toList]; omega
        by_cases h1 : j < o
        · rw [if_pos h1, List.append_assoc, List.getElem?_append_left (by omega), List.getElem?_take, if_pos h1]
        · rw [if_neg h1]
          by_cases h2 : j < o + vs.length
          · rw [if_pos h2, List.append_assoc, List.getElem?_append_right (by omega), hlen, List.getElem?_append_left (by omega)]
          · rw [if_neg h2, List.getElem?_append_right (by rw [List.length_append, hlen]; omega), List.length_append, hlen, List.getElem?_drop]
            congr 1; omega
      rw [List.getElem?_take, if_pos hj, hget]
      rcases hy.2 j hj with ⟨h1, h2, h3⟩ | ⟨h1, h2, h3⟩
      · rw [if_neg (by omega), if_pos h2, h3]
      · have hx : cur.toList[j]? = xs[j]? := by rw [← ht, List.getElem?_take, if_pos h2]
        rw [h3, ← hx]
        by_cases h4 : j < o
        · rw [if_pos h4]
        · rw [if_neg h4, if_neg (by omega)]
    · rw [List.getElem?_take, if_neg hj, List.getElem?_eq_none (by rw [hy.1]; omega)]
/-- copy into an owned row, as an equation. -/
theorem run_copy_into (dT sT ty : TypeId) (i : TypeInfo) (hu : P.underlying dT = some (.slice e)) (hi : P.info? e = some i) (hsz : i.size = size)
    (off dLen dCap : Nat) (ad : Addr) (sLen sCap : Nat) (hown : w.ownsRow b e size (.slice (some ⟨g, 0, none⟩) n cap) n xs) (cs : List Value) (hn : cs.length = Nat.min sLen dLen * size)
    (hsrc : ∀ j v, cs[j]? = some v → w.cell? (ad.add j) = some v) (hfit : off + cs.length ≤ cap * size) (h1 : ∀ v ∈ cs, v.oneCell' = true) :
    ∃ w', (Builtin.copy_ #[dT, sT] ty #[.slice (some ⟨g, off, none⟩) dLen dCap, .slice (some ad) sLen sCap]).run P w = .ok (goInt (Nat.min sLen dLen)) w' ∧ After w w' b e size g n cap xs off cs := by
  obtain ⟨w', hr, ha⟩ := own_store (P := P) hown off cs hfit h1
  have hl := run_loadCells_list (P := P) w ad cs hsrc
  rw [hn] at hl
  refine ⟨w', ?_, ha⟩
  simp [Builtin.copy_, run_underlying hu, Builtin.lenOf, Builtin.firstCells, sizeOf, typeInfo, hi, hsz, hl, hr]
/-- copy into an owned row. -/
theorem wp_copy_into {o : Oper} {a : Act} {K : Act → World → Prop} {Q : Exit → Act → World → Prop} (d s : Operand) (dT sT : TypeId)
    (ho : o.op = .call { callee := .builtin .copy, args := #[d, s], argTypes := #[dT, sT] }) (i : TypeInfo) (hu : P.underlying dT = some (.slice e)) (hi : P.info? e = some i) (hsz : i.size = size)
    (off dLen dCap : Nat) (ad : Addr) (sLen sCap : Nat) (hd : a.eval d = .slice (some ⟨g, off, none⟩) dLen dCap) (hs : a.eval s = .slice (some ad) sLen sCap)
    (hown : w.ownsRow b e size (.slice (some ⟨g, 0, none⟩) n cap) n xs) (cs : List Value) (hn : cs.length = Nat.min sLen dLen * size)
    (hsrc : ∀ j v, cs[j]? = some v → w.cell? (ad.add j) = some v) (hfit : off + cs.length ≤ cap * size) (h1 : ∀ v ∈ cs, v.oneCell' = true)
    (h : ∀ w', After w w' b e size g n cap xs off cs → K (a.put o.dst (goInt (Nat.min sLen dLen))) w') : o.wp P a w K Q := by
  obtain ⟨w', hr, ha⟩ := own_store (P := P) hown off cs hfit h1
  have hl := run_loadCells_list (P := P) w ad cs hsrc
  rw [hn] at hl
  have hrun : (Builtin.copy_ #[dT, sT] o.type #[.slice (some ⟨g, off, none⟩) dLen dCap, .slice (some ad) sLen sCap]).run P w = .ok (goInt (Nat.min sLen dLen)) w' := by
    simp [Builtin.copy_, run_underlying hu, Builtin.lenOf, Builtin.firstCells, sizeOf, typeInfo, hi, hsz, hl, hr]
  unfold Oper.wp
  simp [execOp, ho, resolve, invoke, builtin, hd, hs, hrun, Result.andThen]
  exact h w' ha
theorem wpList_copy_into {ops : Array Oper} {rest : List Oper} {o : Oper} {a : Act} {Q : Exit → Act → World → Prop} (hgd : o.guard = none) (d s : Operand) (dT sT : TypeId)
    (ho : o.op = .call { callee := .builtin .copy, args := #[d, s], argTypes := #[dT, sT] }) (i : TypeInfo) (hu : P.underlying dT = some (.slice e)) (hi : P.info? e = some i) (hsz : i.size = size)
    (off dLen dCap : Nat) (ad : Addr) (sLen sCap : Nat) (hd : a.eval d = .slice (some ⟨g, off, none⟩) dLen dCap) (hs : a.eval s = .slice (some ad) sLen sCap)
    (hown : w.ownsRow b e size (.slice (some ⟨g, 0, none⟩) n cap) n xs) (cs : List Value) (hn : cs.length = Nat.min sLen dLen * size)
    (hsrc : ∀ j v, cs[j]? = some v → w.cell? (ad.add j) = some v) (hfit : off + cs.length ≤ cap * size) (h1 : ∀ v ∈ cs, v.oneCell' = true)
    (h : ∀ w', After w w' b e size g n cap xs off cs → wpList P ops Q rest (a.put o.dst (goInt (Nat.min sLen dLen))) w') : wpList P ops Q (o :: rest) a w :=
  wpList_plain hgd fun _ hK => wp_copy_into d s dT sT ho i hu hi hsz off dLen dCap ad sLen sCap hd hs hown cs hn hsrc hfit h1 fun w' ha => hK _ _ (h w' ha)
theorem step_copy_into {ops : Array Oper} {o : Oper} {a : Act} {K : Act → World → Prop} {Q : Exit → Act → World → Prop} {E : Prop} (hg : o.guard = none) (d s : Operand) (dT sT : TypeId)
    (ho : o.op = .call { callee := .builtin .copy, args := #[d, s], argTypes := #[dT, sT] }) (i : TypeInfo) (hu : P.underlying dT = some (.slice e)) (hi : P.info? e = some i) (hsz : i.size = size)
    (off dLen dCap : Nat) (ad : Addr) (sLen sCap : Nat) (hd : a.eval d = .slice (some ⟨g, off, none⟩) dLen dCap) (hs : a.eval s = .slice (some ad) sLen sCap)
    (hown : w.ownsRow b e size (.slice (some ⟨g, 0, none⟩) n cap) n xs) (cs : List Value) (hn : cs.length = Nat.min sLen dLen * size)
    (hsrc : ∀ j v, cs[j]? = some v → w.cell? (ad.add j) = some v) (hfit : off + cs.length ≤ cap * size) (h1 : ∀ v ∈ cs, v.oneCell' = true)
    (h : ∀ w', After w w' b e size g n cap xs off cs → K (a.put o.dst (goInt (Nat.min sLen dLen))) w') :
    if Region.wanted o (yielded ops a.tmps) = true then Oper.wp P o a w K Q else E := by
  have hw : Region.wanted o (yielded ops a.tmps) = true := by simp [Region.wanted, hg]
  rw [if_pos hw]
  exact wp_copy_into d s dT sT ho i hu hi hsz off dLen dCap ad sLen sCap hd hs hown cs hn hsrc hfit h1 h
/-- clear of a part of an owned row. -/
theorem run_clear_own (dT ty : TypeId) (i : TypeInfo) (z : Value) (hu : P.underlying dT = some (.slice e)) (hi : P.info? e = some i) (hz : i.zero = some z) (hzs : z.cells.size = size) (hz1 : ∀ v ∈ z.cells.toList, v.oneCell' = true) (hzp : 0 < size)
    (off m dCap : Nat) (hown : w.ownsRow b e size (.slice (some ⟨g, 0, none⟩) n cap) n xs) (hfit : off + (m + 1) * size ≤ cap * size) :
    ∃ w' vs, (Builtin.clear_ #[dT] ty #[.slice (some ⟨g, off, none⟩) (m + 1) dCap]).run P w = .ok (.tuple #[]) w' ∧ vs.length = (m + 1) * size ∧ After w w' b e size g n cap xs off vs := by
  have hvl : (Builtin.zeroCells z.cells (m + 1)).toList.length = (m + 1) * size := by rw [Array.length_toList, size_zeroCells, hzs]
  have hv1 : ∀ v ∈ (Builtin.zeroCells z.cells (m + 1)).toList, v.oneCell' = true := by
    intro v hv
    simp only [Builtin.zeroCells, Array.toList_map, List.mem_map] at hv
    obtain ⟨j, _, rfl⟩ := hv
    have hlt : j % z.cells.size < z.cells.size := Nat.mod_lt _ (by omega)
    rw [getElem!_pos z.cells _ hlt]
    exact hz1 _ (by simp)
  obtain ⟨w', hr, ha⟩ := own_store (P := P) hown off _ (by rw [hvl]; exact hfit) hv1
  refine ⟨w', _, ?_, hvl, ha⟩
  simp [Builtin.clear_, run_underlying hu, zeroValue, typeInfo, hi, hz, hr]
theorem run_clear_none (dT ty : TypeId) (hu : P.underlying dT = some (.slice e)) (A : Option Addr) (dCap : Nat) : (Builtin.clear_ #[dT] ty #[.slice A 0 dCap]).run P w = .ok (.tuple #[]) w := by
  cases A <;> simp [Builtin.clear_, run_underlying hu]
/-- append within the capacity, for a region. -/
theorem step_append_within {ops : Array Oper} {o : Oper} {a : Act} {K : Act → World → Prop} {Q : Exit → Act → World → Prop} {E : Prop} (hgd : o.guard = none) (s x : Operand) (t : TypeId)
    (ho : o.op = .call { callee := .builtin .append, args := #[s, x], argTypes := #[t, t] }) (i : TypeInfo) (hu : P.underlying t = some (.slice e)) (hi : P.info? e = some i) (hsz : i.size = size)
    (hs : a.eval s = .slice (some ⟨g, 0, none⟩) n cap) (hown : w.ownsRow b e size (.slice (some ⟨g, 0, none⟩) n cap) n xs)
    (ad : Addr) (m c : Nat) (news : List Value) (hx : a.eval x = .slice (some ad) m c) (hl : news.length = m * size) (hnews : ∀ j u, news[j]? = some u → w.cell? (ad.add j) = some u) (h1 : ∀ u ∈ news, u.oneCell' = true)
    (hroom : n + m ≤ cap)
    (h : ∀ w', w'.ownsRow b e size (.slice (some ⟨g, 0, none⟩) (n + m) cap) (n + m) (xs ++ news) → w.grownBy w' (some g) → K (a.put o.dst (.slice (some ⟨g, 0, none⟩) (n + m) cap)) w') :
    if Region.wanted o (yielded ops a.tmps) = true then Oper.wp P o a w K Q else E := by
  have hw : Region.wanted o (yielded ops a.tmps) = true := by simp [Region.wanted, hgd]
  rw [if_pos hw]
  obtain ⟨w', hr, h2, h3⟩ := run_append_fits (P := P) w b t o.type e i size hu hi hsz g n cap xs hown ad m c news hl hnews h1 hroom
  unfold Oper.wp execOp
  simp only [ho, resolve, invoke, builtin, Sem.run_bind, Sem.run_pure, Result.andThen_ok, List.map_toArray, List.map_cons, List.map_nil, hs, hx, hr]
  exact h w' h2 h3
/-- The type of what is appended is asked for nothing but whether it is a slice's. -/
theorem append_types (t t' ty e' : TypeId) (i : TypeInfo) (hu : P.underlying t = some (.slice e)) (hu' : P.underlying t' = some (.slice e')) (hi : P.info? e = some i) (A : Option Addr) (sl sc : Nat) (x : Value) (w : World) :
    (Builtin.append_ #[t, t'] ty #[.slice A sl sc, x]).run P w = (Builtin.append_ #[t, t] ty #[.slice A sl sc, x]).run P w := by
  simp [Builtin.append_, run_underlying hu, run_underlying hu', sizeOf, typeInfo, hi]
/-- append(s[:n], make([]T, m)...) beyond the capacity: a new row. -/
theorem run_append_make (t tn ty : TypeId) (i : TypeInfo) (z : Value) (k kn : IntKind) (hu : P.underlying t = some (.slice e)) (htn : P.underlying tn = some (.int kn)) (hi : P.info? e = some i) (hz : i.zero = some z) (hsz : i.size = size) (hzs : z.cells.size = size) (hzp : 0 < size)
    (hown : w.ownsRow b e size (.slice (some ⟨g, 0, none⟩) n cap) n xs) (m : Nat) (hm : 0 < m) (hfull : cap < n + m) (h63 : n + m ≤ 65536) (hby : i.bytes ≤ 1024) :
    ∃ w' cap' ys, (Builtin.append_ #[t, tn] ty #[.slice (some ⟨g, 0, none⟩) n cap, .int k m]).run P w = .ok (.slice (some ⟨w.heap.size, 0, none⟩) (n + m) cap') w' ∧
      w'.ownsRow w.heap.size e size (.slice (some ⟨w.heap.size, 0, none⟩) (n + m) cap') (n + m) (xs ++ ys) ∧ w.grownBy w' none := by
  subst hsz
  have hw : IntKind.i64.wrap (m : Int) = m := by rw [IntKind.wrap_i64]; omega
  have hb1 : (n + m) * i.bytes ≤ 65536 * 1024 := Nat.mul_le_mul h63 hby
  have hb2 : m * i.bytes ≤ 65536 * 1024 := Nat.mul_le_mul (by omega) hby
  have h48i : ¬ (281474976710656 < (m : Int) * (i.bytes : Int)) := by rw [← Int.natCast_mul]; omega
  have hneg : ¬ ((m : Int) < 0) := by omega
  have hns : ¬ (m * i.size = 0) := Nat.mul_ne_zero (by omega) (by omega)
  have hroom : ¬ (n + m ≤ cap) := by omega
  have h63' : ¬ (9223372036854775807 < ((n : Int) + (m : Int))) := by omega
  have hfit : Builtin.nextslicecap (n + m) cap * i.bytes ≤ 281474976710656 := growslice_fits (by omega) (by omega)
  have h48' : ¬ (281474976710656 < Builtin.nextslicecap (n + m) cap * i.bytes) := by omega
  have holds : ∀ j u, xs[j]? = some u → w.cell? ((⟨g, 0, none⟩ : Addr).add j) = some u := hown.cells (g := g) rfl
  have hfo := run_firstCells_some (P := P) w.drew i.size n ⟨g, 0, none⟩ n cap xs hown.1 (by simpa using holds)
  have hge := grownCap_ge w (n + m) cap e
  have hcm : grownCap w (n + m) cap e ≤ maxLen := grownCap_le_maxLen w (n + m) cap e (by unfold maxLen; omega)
  refine ⟨w.drew.alloc (.cells (xs.toArray ++ Builtin.zeroCells z.cells m ++ Builtin.zeroCells z.cells (grownCap w (n + m) cap e - (n + m))) e), grownCap w (n + m) cap e, (Builtin.zeroCells z.cells m).toList, ?_, ⟨?_, .inr ⟨w.heap.size, _, _, rfl, Nat.le_refl _, heap_alloc_new w.drew _, hge, hcm, ?_, ?_⟩⟩, ⟨rfl, rfl, rfl, by simp, fun k hk _ => Below.heap_alloc w.drew _ k hk⟩⟩
  · simp [Builtin.append_, run_underlying hu, run_underlying htn, sizeOf, typeInfo, zeroValue, hi, hz, asInt, asIntOf, hw, hneg, hns, hroom, h63', h48', h48i, Question.forced, hfo, newRow, grownCap]
  · rw [List.length_append, hown.1, Array.length_toList, size_zeroCells, hzs, Nat.add_mul]
  · simp only [Array.size_append, List.size_toArray, size_zeroCells, hzs, hown.1, ← Nat.add_mul]
    congr 1
    omega
  · simp only [Array.toList_append, List.append_assoc]
    rw [← List.append_assoc]
    have hl : (xs ++ (Builtin.zeroCells z.cells m).toList).length = (n + m) * i.size := by rw [List.length_append, hown.1, Array.length_toList, size_zeroCells, hzs, Nat.add_mul]
    rw [← hl]
    exact List.take_left
end
end Go.Proofs.YtdkbgdjkdalalaaGreatDoor
