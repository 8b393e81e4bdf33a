/-
  A table of functions that a call makes: a map from numbers to functions that have captured one variable each; a further entry, and a look-up, as laws for the walk. Condition: a further entry's key is none of the table's.
-/
import Derived.WalkKit
import Derived.MapKept
import Derived.Maps.Own
namespace Go.Proofs.YtolifejbenpeoaaDoor
open Go.RowKit

/-- An entry: its number, the function, the captured variable's block, that variable's type, the function in it. -/
structure Entry where
  key : Int
  outer : Nat
  box : Nat
  ty : Nat
  inner : Nat
def Entry.val (x : Entry) : Value := .func (.func x.outer) #[] #[.pointer (some ⟨x.box, 0, none⟩)]
def Entry.held (x : Entry) : Obj := .cells #[.func (.func x.inner) #[] #[]] x.ty (0, 0)
/-- Block m of w is a map that holds just these entries, and each captured variable holds its function. -/
def TableAt (B m : Nat) (L : List Entry) (w : World) : Prop :=
  B ≤ m ∧ (∃ es clock, w.heap[m]? = some (.map es clock) ∧ es.toList.map (fun e => (e.key, e.val)) = L.map fun x => (Value.int .i64 x.key, x.val)) ∧ ∀ x ∈ L, w.heap[x.box]? = some x.held
def findL (k : Int) : List Entry → Nat → Option (Nat × Value)
  | [], _ => none
  | x :: r, i => if k == x.key then some (i, x.val) else findL k r (i + 1)
theorem findNow_int (k : Int) : ∀ (es : List MapEntry) (L : List Entry) (i : Nat), es.map (fun e => (e.key, e.val)) = L.map (fun x => (Value.int .i64 x.key, x.val)) → Instr.findNow (.int .i64) (.int .i64 k) es i = some (findL k L i)
  | [], [], _, _ => rfl
  | [], _ :: _, _, h => by simp at h
  | _ :: _, [], _, h => by simp at h
  | e :: es, x :: L, i, h => by
    simp only [List.map_cons, List.cons.injEq, Prod.mk.injEq] at h
    obtain ⟨⟨h1, h2⟩, h3⟩ := h
    have ih := findNow_int k es L (i + 1) h3
    unfold Instr.findNow
    rw [h1]
    simp only [Instr.sameNow, if_true]
    by_cases hk : k == x.key
    · simp [hk, findL, h2]
    · have hk' : (k == x.key) = false := by simpa using hk
      simp [hk', findL, ih]
theorem TableAt.lt {B m : Nat} {L : List Entry} {w : World} (h : TableAt B m L w) : m < w.heap.size := by
  obtain ⟨_, ⟨es, clock, hb, _⟩, _⟩ := h
  exact (Array.getElem?_eq_some_iff.1 hb).1
theorem TableAt.alloc {B m : Nat} {L : List Entry} {w : World} (h : TableAt B m L w) (o : Obj) : TableAt B m L (w.alloc o) := by
  have hl := h.lt
  obtain ⟨h0, ⟨es, clock, hb, he⟩, hx⟩ := h
  refine ⟨h0, ⟨es, clock, (Below.heap_alloc w o m hl).trans hb, he⟩, fun x hxl => ?_⟩
  have := hx x hxl
  exact (Below.heap_alloc w o _ (Array.getElem?_eq_some_iff.1 this).1).trans this
theorem TableAt.made (w : World) (B : Nat) (hB : B ≤ w.heap.size) : TableAt B w.heap.size [] (w.alloc (.map #[] 0)) :=
  ⟨hB, ⟨#[], 0, (MapKept.heap_alloc w _).1, rfl⟩, fun _ h => by cases h⟩
variable {P : Program}
theorem table_insert {t kt et : TypeId} {B m : Nat} {L : List Entry} {w : World} (ht : P.underlying t = some (.map kt et)) (hk : P.underlying kt = some (.int .i64)) (h : TableAt B m L w) (x : Entry) (hx : w.heap[x.box]? = some x.held) (hno : findL x.key L 0 = none) :
    ∃ w', (Instr.mapUpdate t (.map (some m)) (.int .i64 x.key) x.val).run P w = .ok () w' ∧ TableAt B m (L ++ [x]) w' ∧ Below B w w' := by
  obtain ⟨h0, ⟨es, clock, hb, he⟩, hl⟩ := h
  have hf : Instr.findNow (.int .i64) (.int .i64 x.key) es.toList 0 = some none := by rw [findNow_int x.key _ L 0 he, hno]
  have hc : (Instr.checkKey false 10000 kt (.int .i64 x.key)).run P w = .ok () w := MapKept.run_checkKey hk (by simp [MapKept.IsKey]) false 9999
  have hset := MapKept.heap_set (o' := .map (es.push { key := .int .i64 x.key, val := x.val, born := clock }) (clock + 1)) hb
  have hne : ∀ y : Entry, w.heap[y.box]? = some y.held → y.box ≠ m := by
    intro y hy e
    rw [e, hb] at hy
    cases hy
  refine ⟨{ w with heap := w.heap.setIfInBounds m (.map (es.push { key := .int .i64 x.key, val := x.val, born := clock }) (clock + 1)) }, ?_, ⟨h0, ⟨_, _, hset.1, ?_⟩, ?_⟩, ?_⟩
  · simp [Instr.mapUpdate, run_underlying ht, MapKept.run_getObj_map hb, hc, MapKept.run_findKey hk hf, MapKept.run_setObj_map _ hb, Result.andThen]
  · simp [he]
  · intro y hy
    rcases List.mem_append.1 hy with hy | hy
    · exact (hset.2 _ (hne y (hl y hy))).trans (hl y hy)
    · simp only [List.mem_singleton] at hy
      subst hy
      exact (hset.2 _ (hne y hx)).trans hx
  · exact ⟨rfl, rfl, rfl, by simp, fun k hkB => hset.2 k (by omega)⟩
theorem wpList_table_insert (w : World) {ops : Array Oper} {rest : List Oper} {o : Oper} {a : Act} {Q : Exit → Act → World → Prop}
    (hg : o.guard = none) (m x v : Operand) (t : TypeId) (hop : o.op = Op.insert t m x v)
    (kt et : TypeId) (ht : P.underlying t = some (.map kt et)) (hk : P.underlying kt = some (.int .i64)) (B b : Nat) (L : List Entry) (y : Entry)
    (hm : a.eval m = .map (some b)) (hx : a.eval x = .int .i64 y.key) (hv : a.eval v = y.val) (h : TableAt B b L w) (hy : w.heap[y.box]? = some y.held) (hno : findL y.key L 0 = none)
    (hK : ∀ w', TableAt B b (L ++ [y]) w' → Below B w w' → wpList P ops Q rest (a.put o.dst undef) w') :
    wpList P ops Q (o :: rest) a w := by
  refine wpList_plain hg fun K' hK' => ?_
  obtain ⟨w', hrun, r1, r2⟩ := table_insert ht hk h y hy hno
  unfold Oper.wp
  simp [execOp, hop, hm, hx, hv, hrun, Result.andThen]
  exact hK' _ _ (hK w' r1 r2)
theorem table_lookup {t kt et : TypeId} {B m : Nat} {L : List Entry} {w : World} (ht : P.underlying t = some (.map kt et)) (hk : P.underlying kt = some (.int .i64)) (h : TableAt B m L w) (hz : (zeroValue et).run P w = .ok .nilFunc w) (k : Int) :
    (Instr.lookup t (.map (some m)) (.int .i64 k) true).run P w = .ok (match findL k L 0 with | some (_, v) => .tuple #[v, .bool true] | none => .tuple #[.nilFunc, .bool false]) w := by
  obtain ⟨h0, ⟨es, clock, hb, he⟩, hl⟩ := h
  have hf : Instr.findNow (.int .i64) (.int .i64 k) es.toList 0 = some (findL k L 0) := findNow_int k _ L 0 he
  have hc : ∀ e, (Instr.checkKey e 10000 kt (.int .i64 k)).run P w = .ok () w := fun e => MapKept.run_checkKey hk (by simp [MapKept.IsKey]) e 9999
  rcases hq : findL k L 0 with _ | ⟨i, v⟩
  · rw [hq] at hf
    simp [Instr.lookup, run_underlying ht, MapKept.run_getObj_map hb, hc, MapKept.run_findKey hk hf, Result.andThen, hz]
  · rw [hq] at hf
    simp [Instr.lookup, run_underlying ht, MapKept.run_getObj_map hb, hc, MapKept.run_findKey hk hf, Result.andThen]
end Go.Proofs.YtolifejbenpeoaaDoor
