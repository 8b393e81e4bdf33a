/-
  Lex: tokens in a row: how they lie in memory; a token's bytes are all below 128; the state of the loop of Lex.
-/
import Derived.Test.YtigbapkdpaahjaaDoorLSign
import Derived.Lib.OthersKept
import Derived.Maps.AppendAt
namespace Go.Proofs.YtigbapkdpaahjaaDoor
open Go.RowKit
theorem qf_ascii_fin : ∀ k : Fin 256, (qf k.val).all (fun c => decide (c.toNat < 128)) = true := by decide +kernel
theorem qall_ascii (l : List UInt8) : ∀ c ∈ qall l, c.toNat < 128 := by
  intro c hc
  unfold qall qbody at hc
  rcases List.mem_cons.1 hc with rfl | hc
  · decide
  · rcases List.mem_append.1 hc with hc | hc
    · obtain ⟨d, _, hd⟩ := List.mem_flatMap.1 hc
      have := List.all_eq_true.1 (qf_ascii_fin ⟨d.toNat, d.toNat_lt⟩) c hd
      exact of_decide_eq_true this
    · obtain rfl := List.mem_singleton.1 hc
      decide
theorem body_ascii {c : UInt8} (h : isBody c = true) : c.toNat < 128 := by
  by_cases hx : c.toNat < 128
  · exact hx
  · have := (body_high c.toNat (by omega)).2.2.2
    rw [body_at, h] at this; cases this
theorem sign_ascii : ∀ s ∈ signL, ∀ c ∈ s, c.toNat < 128 := by decide
theorem name_ascii (l : List UInt8) : ∀ c ∈ nameOf l, c.toNat < 128 := fun c hc => body_ascii (List.all_eq_true.1 (nameOf_all l) c hc)
/-- A token's bytes. -/
theorem tok_ascii {l : List UInt8} {t : TK} {n : Nat} (h : oneV l = .tok t n) : ∀ c ∈ l.take n, c.toNat < 128 := by
  have ht := oneV_tok h
  cases l with
  | nil => cases h
  | cons c r =>
    intro d hd
    rw [oneV_cons] at h
    split at h
    · obtain ⟨_, rfl⟩ := OneR.tok.inj h
      rw [nameOf_take] at hd
      exact name_ascii _ d hd
    · split at h
      · obtain ⟨_, rfl⟩ := OneR.tok.inj h
        rw [nameOf_take] at hd
        exact name_ascii _ d hd
      · split at h
        · rename_i hc
          unfold tagTok at h
          split at h
          · obtain ⟨_, rfl⟩ := OneR.tok.inj h
            rw [Nat.add_comm, List.take_succ_cons, nameOf_take] at hd
            rcases List.mem_cons.1 hd with rfl | hd
            · rw [hc]; decide
            · exact name_ascii _ d hd
          · cases h
        · split at h
          · unfold intTok at h
            split at h
            · obtain ⟨_, rfl⟩ := OneR.tok.inj h
              rw [nameOf_take] at hd
              exact name_ascii _ d hd
            · cases h
          · split at h
            · unfold strTok at h
              split at h
              · obtain ⟨rfl, rfl⟩ := OneR.tok.inj h
                rw [ht.1] at hd
                exact qall_ascii _ d hd
              · cases h
            · unfold signTok at h
              split at h
              · rename_i s hs
                obtain ⟨rfl, rfl⟩ := OneR.tok.inj h
                rw [ht.1] at hd
                exact sign_ascii s (List.mem_of_find?_eq_some hs) d hd
              · cases h
def tokCells (T : List (TK × Nat)) : List Value := T.flatMap fun t => [.int .i64 t.1.kind, .int .i64 (t.2 : Nat), .string ⟨t.1.text.toArray⟩, .int .i64 t.1.n]
theorem tokCells_len (T : List (TK × Nat)) : (tokCells T).length = T.length * 4 := by
  induction T with
  | nil => rfl
  | cons t T ih =>
    have : tokCells (t :: T) = [.int .i64 t.1.kind, .int .i64 (t.2 : Nat), .string ⟨t.1.text.toArray⟩, .int .i64 t.1.n] ++ tokCells T := rfl
    rw [this, List.length_append, ih, List.length_cons]
    simp; omega
theorem tokCells_append (T U : List (TK × Nat)) : tokCells (T ++ U) = tokCells T ++ tokCells U := by unfold tokCells; rw [List.flatMap_append]
theorem tokCells_at : ∀ {T : List (TK × Nat)} {i : Nat} {t : TK × Nat}, T[i]? = some t → (tokCells T)[i * 4]? = some (.int .i64 t.1.kind) ∧ (tokCells T)[i * 4 + 1]? = some (.int .i64 (t.2 : Nat)) ∧ (tokCells T)[i * 4 + 2]? = some (.string ⟨t.1.text.toArray⟩) ∧ (tokCells T)[i * 4 + 3]? = some (.int .i64 t.1.n)
  | [], _, _, h => by cases h
  | u :: T, 0, t, h => by
    obtain rfl : u = t := by simpa using h
    exact ⟨rfl, rfl, rfl, rfl⟩
  | u :: T, i + 1, t, h => by
    obtain ⟨h1, h2, h3, h4⟩ := tokCells_at (T := T) (i := i) (t := t) (by simpa using h)
    have hc : tokCells (u :: T) = [.int .i64 u.1.kind, .int .i64 (u.2 : Nat), .string ⟨u.1.text.toArray⟩, .int .i64 u.1.n] ++ tokCells T := rfl
    rw [hc]
    have e : ∀ k, ([.int .i64 u.1.kind, .int .i64 (u.2 : Nat), .string ⟨u.1.text.toArray⟩, .int .i64 u.1.n] ++ tokCells T : List Value)[(i + 1) * 4 + k]? = (tokCells T)[i * 4 + k]? := fun k => by
      rw [List.getElem?_append_right (by simp; omega)]
      congr 1
      simp; omega
    exact ⟨(e 0).trans h1, (e 1).trans h2, (e 2).trans h3, (e 3).trans h4⟩
/-- Tokens lie in a row of one's own. -/
def TokRow (B : Nat) (w : World) (v : Value) (T : List (TK × Nat)) : Prop := w.ownsRow B 31 4 v T.length (tokCells T)
theorem TokRow.keep {B : Nat} {w w' : World} {v : Value} {T : List (TK × Nat)} (h : TokRow B w v T) (hk : ∀ b, v.ownBlock = some b → w'.heap[b]? = w.heap[b]?) : TokRow B w' v T := by
  refine ⟨h.1, ?_⟩
  rcases h.2 with hn | ⟨g, cap, cur, hv, hb, hg, rest⟩
  · exact .inl hn
  · exact .inr ⟨g, cap, cur, hv, hb, (hk g (by rw [hv]; rfl)).trans hg, rest⟩
theorem TokRow.below {B : Nat} {w w' : World} {v : Value} {T : List (TK × Nat)} (h : TokRow B w v T) (hb : Below w.heap.size w w') : TokRow B w' v T :=
  h.keep fun b hx => hb.block b (World.ownsRow.lt h b hx).2
theorem TokRow.type {B : Nat} {w : World} {v : Value} {T : List (TK × Nat)} (h : TokRow B w v T) (b : Nat) (hx : v.ownBlock = some b) : ∃ cur, w.heap[b]? = some (.cells cur 31 (0, 0)) := by
  rcases h.2 with ⟨rfl, _⟩ | ⟨g, cap, cur, rfl, _, hg, _⟩
  · cases hx
  · obtain rfl : g = b := Option.some.inj hx
    exact ⟨cur, hg⟩
/-- A row of tokens as it is read. -/
theorem TokRow.view {B : Nat} {w : World} {v : Value} {T : List (TK × Nat)} (h : TokRow B w v T) : ∃ A c, v = .slice A T.length c ∧ ∀ (i : Nat) (t : TK × Nat), T[i]? = some t → ∃ g, A = some ⟨g, 0, none⟩ ∧ B ≤ g ∧ g < w.heap.size ∧ w.cell? ⟨g, i * 4, none⟩ = some (.int .i64 t.1.kind) ∧ w.cell? ⟨g, i * 4 + 1, none⟩ = some (.int .i64 (t.2 : Nat)) ∧ w.cell? ⟨g, i * 4 + 2, none⟩ = some (.string ⟨t.1.text.toArray⟩) ∧ w.cell? ⟨g, i * 4 + 3, none⟩ = some (.int .i64 t.1.n) := by
  have h0 := h
  rcases h.2 with ⟨rfl, hn⟩ | ⟨g, cap, cur, rfl, hb, hg, _⟩
  · refine ⟨none, 0, by rw [hn], fun i t ht => ?_⟩
    have := (List.getElem?_eq_some_iff.1 ht).1
    omega
  · refine ⟨_, cap, rfl, fun i t ht => ⟨g, rfl, hb, box_lt hg, ?_⟩⟩
    have hi := (List.getElem?_eq_some_iff.1 ht).1
    obtain ⟨k1, k2, k3, k4⟩ := tokCells_at ht
    have hc : ∀ j, j < T.length * 4 → w.cell? ⟨g, j, none⟩ = (tokCells T)[j]? := fun j hj => World.ownsRow.cellAt h0 j hj
    exact ⟨(hc _ (by omega)).trans k1, (hc _ (by omega)).trans k2, (hc _ (by omega)).trans k3, (hc _ (by omega)).trans k4⟩
theorem infoToken : (Tryd.prog.info? 31).map (fun i => (i.zero, i.size, i.bytes)) = some (some (.agg #[.int .i64 0, .int .i64 0, .string ⟨#[]⟩, .int .i64 0]), 4, 40) := by kernel_rfl
theorem tok_info : ∃ i : TypeInfo, Tryd.prog.info? 31 = some i ∧ i.zero = some (.agg #[.int .i64 0, .int .i64 0, .string ⟨#[]⟩, .int .i64 0]) ∧ i.size = 4 ∧ i.bytes = 40 := by
  have h := infoToken
  cases hi : Tryd.prog.info? 31 with
  | none => rw [hi] at h; cases h
  | some i =>
    rw [hi] at h
    have h := Option.some.inj h
    exact ⟨i, rfl, congrArg (fun x => x.1) h, congrArg (fun x => x.2.1) h, congrArg (fun x => x.2.2) h⟩
/-- The loop of Lex: the iterator, and the tokens so far. -/
def LS (s : ByteArray) (w : World) (T : List (TK × Nat)) (v : Value) (pos : Nat) (wr : World) : Prop := wr.heap[w.heap.size]? = some (.stringIter s pos) ∧ TokRow w.heap.size wr v T ∧ Below w.heap.size w wr
theorem LS.lt {s : ByteArray} {w wr : World} {T : List (TK × Nat)} {v : Value} {pos : Nat} (h : LS s w T v pos wr) : w.heap.size < wr.heap.size := (Array.getElem?_eq_some_iff.1 h.1).1
theorem LS.apart {s : ByteArray} {w wr : World} {T : List (TK × Nat)} {v : Value} {pos : Nat} (h : LS s w T v pos wr) : v.ownBlock ≠ some w.heap.size := fun hx => by
  obtain ⟨cur, hc⟩ := h.2.1.type _ hx
  rw [h.1] at hc; cases hc
theorem LS.start (s : ByteArray) (w : World) : LS s w [] (.slice none 0 0) 0 (w.iter s 0) := ⟨World.iter_heap w s 0, World.ownsRow_nil _ _ _ _, below_iter w s 0⟩
theorem LS.next {s : ByteArray} {w wr : World} {T : List (TK × Nat)} {v : Value} {pos : Nat} (h : LS s w T v pos wr) (pos' : Nat) : LS s w T v pos' (wr.iterAt w.heap.size s pos') :=
  ⟨Lib.iterAt_heap _ _ _ _ _ h.1, h.2.1.keep fun _ hx => Lib.iterAt_other _ _ _ _ _ fun e => h.apart (e ▸ hx), Lib.below_iterAt h.2.2 (Nat.le_refl _) _ _⟩
theorem LS.below {s : ByteArray} {w wr w' : World} {T : List (TK × Nat)} {v : Value} {pos : Nat} (h : LS s w T v pos wr) (hb : Below wr.heap.size wr w') : LS s w T v pos w' :=
  ⟨(hb.block _ h.lt).trans h.1, h.2.1.below hb, h.2.2.trans (hb.mono h.2.2.size)⟩
theorem tok_push {w wr w' : World} {T : List (TK × Nat)} {v v' : Value} {k n : Int} {x : List UInt8} {q : Nat} (hb : Below w.heap.size w wr) (hg : wr.grownBy w' v.ownBlock) (hv : ∀ b, v.ownBlock = some b → w.heap.size ≤ b)
    (ho : w'.ownsRow w.heap.size 31 4 v' (T.length + 1) (tokCells T ++ [.int .i64 k, .int .i64 (q : Nat), .string ⟨x.toArray⟩, .int .i64 n])) : TokRow w.heap.size w' v' (T ++ [(⟨k, x, n⟩, q)]) ∧ Below w.heap.size w w' := by
  refine ⟨?_, hb.trans ⟨hg.os, hg.tape, hg.output, hg.size, fun b hl => ?_⟩⟩
  · show w'.ownsRow _ _ _ _ (T ++ [_]).length (tokCells (T ++ [_]))
    rw [tokCells_append, List.length_append]
    exact ho
  · refine hg.block b (Nat.lt_of_lt_of_le hl hb.size) fun e => ?_
    have := hv b e.symm
    omega
theorem tok_cells4 (w : World) (k a n : Int) (s : ByteArray) : ∀ (j : Nat) (u : Value), [Value.int .i64 k, .int .i64 a, .string s, .int .i64 n][j]? = some u → (w.alloc (.cells #[.int .i64 k, .int .i64 a, .string s, .int .i64 n] 31 (0, 0))).cell? ((⟨w.heap.size, 0, none⟩ : Addr).add j) = some u := by
  intro j u hj
  rw [Addr.add_lit, Lib.cell_of_heap (box_at w _ _ rfl)]
  simpa using hj
theorem tok_one (k a n : Int) (s : ByteArray) : ∀ u ∈ [Value.int .i64 k, .int .i64 a, .string s, .int .i64 n], u.oneCell' = true := by
  intro u hu
  simp only [List.mem_cons, List.not_mem_nil, or_false] at hu
  rcases hu with rfl | rfl | rfl | rfl <;> rfl
theorem LS.push {s : ByteArray} {w wr w' : World} {T : List (TK × Nat)} {v v' : Value} {pos : Nat} {k n : Int} {x : List UInt8} {q : Nat} (h : LS s w T v pos wr) (hg : wr.grownBy w' v.ownBlock)
    (ho : w'.ownsRow w.heap.size 31 4 v' (T.length + 1) (tokCells T ++ [.int .i64 k, .int .i64 (q : Nat), .string ⟨x.toArray⟩, .int .i64 n])) : LS s w (T ++ [(⟨k, x, n⟩, q)]) v' pos w' := by
  obtain ⟨h1, h2⟩ := tok_push h.2.2 hg (fun b hx => (World.ownsRow.lt h.2.1 b hx).1) ho
  exact ⟨(hg.block _ h.lt fun e => h.apart e.symm).trans h.1, h1, h2⟩
end Go.Proofs.YtigbapkdpaahjaaDoor
