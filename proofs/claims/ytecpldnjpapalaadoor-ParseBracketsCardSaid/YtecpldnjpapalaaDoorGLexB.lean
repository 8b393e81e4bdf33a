/-
  Lex: tokens in a row: how they lie in memory; a token's bytes are all below 128; the state of the loop of Lex.
  Lex: the walk of Lex: all tokens, or what is wrong first. Condition: the variable of the signs holds what its initialiser lays.
  Lex: the walk of IsName, and of the laws' own first look. Condition: the variable of the signs holds what its initialiser lays.
  Lex, as the laws use it: tokens and the end, or what is wrong; a row of tokens beside what comes after.
  Lex: the document's text of a token: what it is, and how long; tokens are small.
-/
import Derived.Test.YtecpldnjpapalaaDoorLSign
import Derived.Lib.OthersKept
import Derived.Maps.AppendAt
import Derived.Test.YtecpldnjpapalaaDoorGWord
namespace Go.Proofs.YtecpldnjpapalaaDoor
section
open Go.RowKit
theorem qf_ascii_fin : ∀ k : Fin 256, (qf k.val).all (fun c => decide (c.toNat < 128)) = true := by decide +kernel
theorem qall_ascii (l : List UInt8) : ∀ c ∈ qall l, c.toNat < 128 := by
  intro c hc
  unfold qall qbody at hc
  rcases List.mem_cons.1 hc with rfl | hc
  · decide
  · rcases List.mem_append.1 hc with hc | hc
    · obtain ⟨d, _, hd⟩ := List.mem_flatMap.1 hc
      have := List.all_eq_true.1 (qf_ascii_fin ⟨d.toNat, d.toNat_lt⟩) c hd
      exact of_decide_eq_true this
    · obtain rfl := List.mem_singleton.1 hc
      decide
theorem body_ascii {c : UInt8} (h : isBody c = true) : c.toNat < 128 := by
  by_cases hx : c.toNat < 128
  · exact hx
  · have := (body_high c.toNat (by omega)).2.2.2
    rw [body_at, h] at this; cases this
theorem sign_ascii : ∀ s ∈ signL, ∀ c ∈ s, c.toNat < 128 := by decide
theorem name_ascii (l : List UInt8) : ∀ c ∈ nameOf l, c.toNat < 128 := fun c hc => body_ascii (List.all_eq_true.1 (nameOf_all l) c hc)
/-- A token's bytes. -/
theorem tok_ascii {l : List UInt8} {t : TK} {n : Nat} (h : oneV l = .tok t n) : ∀ c ∈ l.take n, c.toNat < 128 := by
  have ht := oneV_tok h
  cases l with
  | nil => cases h
  | cons c r =>
    intro d hd
    rw [oneV_cons] at h
    split at h
    · obtain ⟨_, rfl⟩ := OneR.tok.inj h
      rw [nameOf_take] at hd
      exact name_ascii _ d hd
    · split at h
      · obtain ⟨_, rfl⟩ := OneR.tok.inj h
        rw [nameOf_take] at hd
        exact name_ascii _ d hd
      · split at h
        · rename_i hc
          unfold tagTok at h
          split at h
          · obtain ⟨_, rfl⟩ := OneR.tok.inj h
            rw [Nat.add_comm, List.take_succ_cons, nameOf_take] at hd
            rcases List.mem_cons.1 hd with rfl | hd
            · rw [hc]; decide
            · exact name_ascii _ d hd
          · cases h
        · split at h
          · unfold intTok at h
            split at h
            · obtain ⟨_, rfl⟩ := OneR.tok.inj h
              rw [nameOf_take] at hd
              exact name_ascii _ d hd
            · cases h
          · split at h
            · unfold strTok at h
              split at h
              · obtain ⟨rfl, rfl⟩ := OneR.tok.inj h
                rw [ht.1] at hd
                exact qall_ascii _ d hd
              · cases h
            · unfold signTok at h
              split at h
              · rename_i s hs
                obtain ⟨rfl, rfl⟩ := OneR.tok.inj h
                rw [ht.1] at hd
                exact sign_ascii s (List.mem_of_find?_eq_some hs) d hd
              · cases h
def tokCells (T : List (TK × Nat)) : List Value := T.flatMap fun t => [.int .i64 t.1.kind, .int .i64 (t.2 : Nat), .string ⟨t.1.text.toArray⟩, .int .i64 t.1.n]
theorem tokCells_len (T : List (TK × Nat)) : (tokCells T).length = T.length * 4 := by
  induction T with
  | nil => rfl
  | cons t T ih =>
    have : tokCells (t :: T) = [.int .i64 t.1.kind, .int .i64 (t.2 : Nat), .string ⟨t.1.text.toArray⟩, .int .i64 t.1.n] ++ tokCells T := rfl
    rw [this, List.length_append, ih, List.length_cons]
    simp; omega
theorem tokCells_append (T U : List (TK × Nat)) : tokCells (T ++ U) = tokCells T ++ tokCells U := by unfold tokCells; rw [List.flatMap_append]
theorem tokCells_at : ∀ {T : List (TK × Nat)} {i : Nat} {t : TK × Nat}, T[i]? = some t → (tokCells T)[i * 4]? = some (.int .i64 t.1.kind) ∧ (tokCells T)[i * 4 + 1]? = some (.int .i64 (t.2 : Nat)) ∧ (tokCells T)[i * 4 + 2]? = some (.string ⟨t.1.text.toArray⟩) ∧ (tokCells T)[i * 4 + 3]? = some (.int .i64 t.1.n)
  | [], _, _, h => by cases h
  | u :: T, 0, t, h => by
    obtain rfl : u = t := by simpa using h
    exact ⟨rfl, rfl, rfl, rfl⟩
  | u :: T, i + 1, t, h => by
    obtain ⟨h1, h2, h3, h4⟩ := tokCells_at (T := T) (i := i) (t := t) (by simpa using h)
    have hc : tokCells (u :: T) = [.int .i64 u.1.kind, .int .i64 (u.2 : Nat), .string ⟨u.1.text.toArray⟩, .int .i64 u.1.n] ++ tokCells T := rfl
    rw [hc]
    have e : ∀ k, ([.int .i64 u.1.kind, .int .i64 (u.2 : Nat), .string ⟨u.1.text.toArray⟩, .int .i64 u.1.n] ++ tokCells T : List Value)[(i + 1) * 4 + k]? = (tokCells T)[i * 4 + k]? := fun k => by
      rw [List.getElem?_append_right (by simp; omega)]
      congr 1
      simp; omega
    exact ⟨(e 0).trans h1, (e 1).trans h2, (e 2).trans h3, (e 3).trans h4⟩
/-- Tokens lie in a row of one's own. -/
def TokRow (B : Nat) (w : World) (v : Value) (T : List (TK × Nat)) : Prop := w.ownsRow B 43 4 v T.length (tokCells T)
theorem TokRow.keep {B : Nat} {w w' : World} {v : Value} {T : List (TK × Nat)} (h : TokRow B w v T) (hk : ∀ b, v.ownBlock = some b → w'.heap[b]? = w.heap[b]?) : TokRow B w' v T := by
  refine ⟨h.1, ?_⟩
  rcases h.2 with hn | ⟨g, cap, cur, hv, hb, hg, rest⟩
  · exact .inl hn
  · exact .inr ⟨g, cap, cur, hv, hb, (hk g (by rw [hv]; rfl)).trans hg, rest⟩
theorem TokRow.below {B : Nat} {w w' : World} {v : Value} {T : List (TK × Nat)} (h : TokRow B w v T) (hb : Below w.heap.size w w') : TokRow B w' v T :=
  h.keep fun b hx => hb.block b (World.ownsRow.lt h b hx).2
theorem TokRow.type {B : Nat} {w : World} {v : Value} {T : List (TK × Nat)} (h : TokRow B w v T) (b : Nat) (hx : v.ownBlock = some b) : ∃ cur, w.heap[b]? = some (.cells cur 43 (0, 0)) := by
  rcases h.2 with ⟨rfl, _⟩ | ⟨g, cap, cur, rfl, _, hg, _⟩
  · cases hx
  · obtain rfl : g = b := Option.some.inj hx
    exact ⟨cur, hg⟩
/-- A row of tokens as it is read. -/
theorem TokRow.view {B : Nat} {w : World} {v : Value} {T : List (TK × Nat)} (h : TokRow B w v T) : ∃ A c, v = .slice A T.length c ∧ ∀ (i : Nat) (t : TK × Nat), T[i]? = some t → ∃ g, A = some ⟨g, 0, none⟩ ∧ B ≤ g ∧ g < w.heap.size ∧ w.cell? ⟨g, i * 4, none⟩ = some (.int .i64 t.1.kind) ∧ w.cell? ⟨g, i * 4 + 1, none⟩ = some (.int .i64 (t.2 : Nat)) ∧ w.cell? ⟨g, i * 4 + 2, none⟩ = some (.string ⟨t.1.text.toArray⟩) ∧ w.cell? ⟨g, i * 4 + 3, none⟩ = some (.int .i64 t.1.n) := by
  have h0 := h
  rcases h.2 with ⟨rfl, hn⟩ | ⟨g, cap, cur, rfl, hb, hg, _⟩
  · refine ⟨none, 0, by rw [hn], fun i t ht => ?_⟩
    have := (List.getElem?_eq_some_iff.1 ht).1
    omega
  · refine ⟨_, cap, rfl, fun i t ht => ⟨g, rfl, hb, box_lt hg, ?_⟩⟩
    have hi := (List.getElem?_eq_some_iff.1 ht).1
    obtain ⟨k1, k2, k3, k4⟩ := tokCells_at ht
    have hc : ∀ j, j < T.length * 4 → w.cell? ⟨g, j, none⟩ = (tokCells T)[j]? := fun j hj => World.ownsRow.cellAt h0 j hj
    exact ⟨(hc _ (by omega)).trans k1, (hc _ (by omega)).trans k2, (hc _ (by omega)).trans k3, (hc _ (by omega)).trans k4⟩
theorem infoToken : (Tryd.prog.info? 43).map (fun i => (i.zero, i.size, i.bytes)) = some (some (.agg #[.int .i64 0, .int .i64 0, .string ⟨#[]⟩, .int .i64 0]), 4, 40) := by kernel_rfl
theorem tok_info : ∃ i : TypeInfo, Tryd.prog.info? 43 = some i ∧ i.zero = some (.agg #[.int .i64 0, .int .i64 0, .string ⟨#[]⟩, .int .i64 0]) ∧ i.size = 4 ∧ i.bytes = 40 := by
  have h := infoToken
  cases hi : Tryd.prog.info? 43 with
  | none => rw [hi] at h; cases h
  | some i =>
    rw [hi] at h
    have h := Option.some.inj h
    exact ⟨i, rfl, congrArg (fun x => x.1) h, congrArg (fun x => x.2.1) h, congrArg (fun x => x.2.2) h⟩
/-- The loop of Lex: the iterator, and the tokens so far. -/
def LS (s : ByteArray) (w : World) (T : List (TK × Nat)) (v : Value) (pos : Nat) (wr : World) : Prop := wr.heap[w.heap.size]? = some (.stringIter s pos) ∧ TokRow w.heap.size wr v T ∧ Below w.heap.size w wr
theorem LS.lt {s : ByteArray} {w wr : World} {T : List (TK × Nat)} {v : Value} {pos : Nat} (h : LS s w T v pos wr) : w.heap.size < wr.heap.size := (Array.getElem?_eq_some_iff.1 h.1).1
theorem LS.apart {s : ByteArray} {w wr : World} {T : List (TK × Nat)} {v : Value} {pos : Nat} (h : LS s w T v pos wr) : v.ownBlock ≠ some w.heap.size := fun hx => by
  obtain ⟨cur, hc⟩ := h.2.1.type _ hx
  rw [h.1] at hc; cases hc
theorem LS.start (s : ByteArray) (w : World) : LS s w [] (.slice none 0 0) 0 (w.iter s 0) := ⟨World.iter_heap w s 0, World.ownsRow_nil _ _ _ _, below_iter w s 0⟩
theorem LS.next {s : ByteArray} {w wr : World} {T : List (TK × Nat)} {v : Value} {pos : Nat} (h : LS s w T v pos wr) (pos' : Nat) : LS s w T v pos' (wr.iterAt w.heap.size s pos') :=
  ⟨Lib.iterAt_heap _ _ _ _ _ h.1, h.2.1.keep fun _ hx => Lib.iterAt_other _ _ _ _ _ fun e => h.apart (e ▸ hx), Lib.below_iterAt h.2.2 (Nat.le_refl _) _ _⟩
theorem LS.below {s : ByteArray} {w wr w' : World} {T : List (TK × Nat)} {v : Value} {pos : Nat} (h : LS s w T v pos wr) (hb : Below wr.heap.size wr w') : LS s w T v pos w' :=
  ⟨(hb.block _ h.lt).trans h.1, h.2.1.below hb, h.2.2.trans (hb.mono h.2.2.size)⟩
theorem tok_push {w wr w' : World} {T : List (TK × Nat)} {v v' : Value} {k n : Int} {x : List UInt8} {q : Nat} (hb : Below w.heap.size w wr) (hg : wr.grownBy w' v.ownBlock) (hv : ∀ b, v.ownBlock = some b → w.heap.size ≤ b)
    (ho : w'.ownsRow w.heap.size 43 4 v' (T.length + 1) (tokCells T ++ [.int .i64 k, .int .i64 (q : Nat), .string ⟨x.toArray⟩, .int .i64 n])) : TokRow w.heap.size w' v' (T ++ [(⟨k, x, n⟩, q)]) ∧ Below w.heap.size w w' := by
  refine ⟨?_, hb.trans ⟨hg.os, hg.tape, hg.output, hg.size, fun b hl => ?_⟩⟩
  · show w'.ownsRow _ _ _ _ (T ++ [_]).length (tokCells (T ++ [_]))
    rw [tokCells_append, List.length_append]
    exact ho
  · refine hg.block b (Nat.lt_of_lt_of_le hl hb.size) fun e => ?_
    have := hv b e.symm
    omega
theorem tok_cells4 (w : World) (k a n : Int) (s : ByteArray) : ∀ (j : Nat) (u : Value), [Value.int .i64 k, .int .i64 a, .string s, .int .i64 n][j]? = some u → (w.alloc (.cells #[.int .i64 k, .int .i64 a, .string s, .int .i64 n] 43 (0, 0))).cell? ((⟨w.heap.size, 0, none⟩ : Addr).add j) = some u := by
  intro j u hj
  rw [Addr.add_lit, Lib.cell_of_heap (box_at w _ _ rfl)]
  simpa using hj
theorem tok_one (k a n : Int) (s : ByteArray) : ∀ u ∈ [Value.int .i64 k, .int .i64 a, .string s, .int .i64 n], u.oneCell' = true := by
  intro u hu
  simp only [List.mem_cons, List.not_mem_nil, or_false] at hu
  rcases hu with rfl | rfl | rfl | rfl <;> rfl
theorem LS.push {s : ByteArray} {w wr w' : World} {T : List (TK × Nat)} {v v' : Value} {pos : Nat} {k n : Int} {x : List UInt8} {q : Nat} (h : LS s w T v pos wr) (hg : wr.grownBy w' v.ownBlock)
    (ho : w'.ownsRow w.heap.size 43 4 v' (T.length + 1) (tokCells T ++ [.int .i64 k, .int .i64 (q : Nat), .string ⟨x.toArray⟩, .int .i64 n])) : LS s w (T ++ [(⟨k, x, n⟩, q)]) v' pos w' := by
  obtain ⟨h1, h2⟩ := tok_push h.2.2 hg (fun b hx => (World.ownsRow.lt h.2.1 b hx).1) ho
  exact ⟨(hg.block _ h.lt fun e => h.apart e.symm).trans h.1, h1, h2⟩
end
section
open Go.RowKit
/-- All tokens and the end, or what is wrong first. -/
def LexV (l : List UInt8) : LR := if 4096 < l.length then .bad 4 0 else (match lexGo 0 0 l with
  | .ok T => .ok (T ++ [(⟨0, [], 0⟩, l.length)])
  | .bad e q => .bad e q)
def LexMade (r : LR) (w : World) (x : Ending) (w' : World) : Prop := match r with
  | .ok T => ∃ v, x = .returned (.tuple #[v, .int .i64 0, .int .i64 0]) ∧ TokRow w.heap.size w' v T ∧ Below w.heap.size w w'
  | .bad e q => x = .returned (.tuple #[.slice none 0 0, .int .i64 e, .int .i64 (q : Nat)]) ∧ Below w.heap.size w w'
/-- What the loop of Lex keeps: at pos, the newest token ends at en. -/
def LexKeep (s : ByteArray) (T : List (TK × Nat)) (pos en : Nat) : Prop := lexGo 0 0 s.data.toList = (lexGo pos (en - pos) (s.data.toList.drop pos)).add T ∧ en ≤ s.size ∧ T.length ≤ pos ∧ ∀ j (hj : j < s.size), pos ≤ j → j < en → (s[j]'hj).toNat < 128
theorem LexKeep.start (s : ByteArray) : LexKeep s [] 0 0 := ⟨by
  rw [List.drop_zero]
  show lexGo 0 0 s.data.toList = _
  cases lexGo 0 0 s.data.toList <;> rfl, by omega, by simp, fun j hj h1 h2 => by omega⟩
theorem LexKeep.skip {s : ByteArray} {T : List (TK × Nat)} {pos en : Nat} (h : LexKeep s T pos en) (hp : pos < s.size) (he : pos < en) : LexKeep s T (pos + 1) en ∧ (s[pos]'hp).toNat < 128 := by
  obtain ⟨h1, h2, h3, h4⟩ := h
  refine ⟨⟨?_, h2, by omega, fun j hj h5 h6 => h4 j hj (by omega) h6⟩, h4 pos hp (Nat.le_refl _) he⟩
  rw [h1, drop_cons s pos hp, show en - pos = (en - (pos + 1)) + 1 by omega]
  rfl
theorem LexKeep.blank {s : ByteArray} {T : List (TK × Nat)} {pos en : Nat} (h : LexKeep s T pos en) (hp : pos < s.size) (he : ¬ pos < en) (hb : isBlank (s[pos]'hp) = true) : LexKeep s T (pos + 1) en := by
  obtain ⟨h1, h2, h3, h4⟩ := h
  refine ⟨?_, h2, by omega, fun j hj h5 h6 => h4 j hj (by omega) h6⟩
  rw [h1, drop_cons s pos hp, show en - pos = 0 by omega, lexGo_blank hb, show en - (pos + 1) = 0 by omega]
theorem LexKeep.tok {s : ByteArray} {T : List (TK × Nat)} {pos en : Nat} {t : TK} {n : Nat} (h : LexKeep s T pos en) (hp : pos < s.size) (he : ¬ pos < en) (hb : isBlank (s[pos]'hp) = false) (ht : oneV (s.data.toList.drop pos) = .tok t n) : LexKeep s (T ++ [(t, pos)]) (pos + 1) (pos + n) ∧ (s[pos]'hp).toNat < 128 ∧ pos + n ≤ s.size ∧ 1 ≤ n := by
  obtain ⟨h1, h2, h3, h4⟩ := h
  have ha := tok_ascii ht
  obtain ⟨h5, h6, h7, _, _⟩ := oneV_tok ht
  rw [List.length_drop] at h6
  have hl : s.data.toList.length = s.size := rfl
  have hat : ∀ j (hj : j < s.size), pos ≤ j → j < pos + n → (s[j]'hj).toNat < 128 := fun j hj h8 h9 => by
    refine ha (s[j]'hj) ?_
    rw [List.mem_iff_getElem]
    refine ⟨j - pos, by rw [List.length_take, List.length_drop]; omega, ?_⟩
    rw [List.getElem_take, List.getElem_drop]
    have : pos + (j - pos) = j := by omega
    simp only [this]
    rfl
  refine ⟨⟨?_, by omega, by rw [List.length_append]; simp; omega, fun j hj h8 h9 => hat j hj (by omega) h9⟩, hat pos hp (Nat.le_refl _) (by omega), by omega, h7⟩
  rw [h1, show en - pos = 0 by omega]
  rw [drop_cons s pos hp] at ht ⊢
  rw [lexGo, if_neg (by rw [hb]; decide), ht]
  show ((lexGo (pos + 1) (n - 1) (s.data.toList.drop (pos + 1))).add [(t, pos)]).add T = _
  rw [LR.add_add, show pos + n - (pos + 1) = n - 1 by omega]
theorem LexKeep.err {s : ByteArray} {T : List (TK × Nat)} {pos en : Nat} {e : Int} (h : LexKeep s T pos en) (hs : s.size ≤ 4096) (hp : pos < s.size) (he : ¬ pos < en) (hb : isBlank (s[pos]'hp) = false) (ht : oneV (s.data.toList.drop pos) = .err e) : LexV s.data.toList = .bad e pos := by
  obtain ⟨h1, h2, h3, h4⟩ := h
  have hl : s.data.toList.length = s.size := rfl
  unfold LexV
  rw [if_neg (by omega), h1, show en - pos = 0 by omega]
  rw [drop_cons s pos hp] at ht ⊢
  rw [lexGo_err hb _ ht]; rfl
theorem LexKeep.stop {s : ByteArray} {T : List (TK × Nat)} {en : Nat} (h : LexKeep s T s.size en) (hs : s.size ≤ 4096) : LexV s.data.toList = .ok (T ++ [(⟨0, [], 0⟩, s.size)]) := by
  obtain ⟨h1, h2, h3, h4⟩ := h
  have hl : s.data.toList.length = s.size := rfl
  unfold LexV
  rw [if_neg (by omega), h1, drop_end, lexGo_nil]
  show LR.ok (T ++ [] ++ _) = _
  rw [List.append_nil, hl]
theorem below_one' {w : World} (o : Obj) : Below w.heap.size w (w.alloc o) := (Below.refl _ w).alloc (Nat.le_refl _) o
theorem extract_drop (s : ByteArray) (k : Nat) : (s.extract k s.size).data.toList = s.data.toList.drop k := by
  rw [Lib.extract_data]
  exact List.take_of_length_le (by rw [List.length_drop]; exact Nat.le_refl _)
theorem oneV_bad {c : UInt8} {r : List UInt8} {e : Int} (hb : isBlank c = false) (h : oneV (c :: r) = .err e) : e = 2 ∨ e = 20 := (lexGo_bad 0 (c :: r) e 0 (lexGo_err hb 0 h)).2.2
theorem rune_of (s : ByteArray) (pos : Nat) (hp : pos < s.size) : RuneOf (Utf8.decode s pos).1 (s[pos]'hp) := by
  by_cases ha : (s[pos]'hp).toNat < 128
  · rw [decode_ascii s pos hp ha]; exact .inl ⟨rfl, ha⟩
  · exact .inr ⟨(decode_high s pos hp (by omega)).1, by omega⟩
theorem lexV_big {l : List UInt8} (h : 4096 < l.length) : LexV l = .bad 4 0 := by unfold LexV; rw [if_pos h]
theorem lexMade_bad {r : LR} {e : Int} {q : Nat} (h : r = .bad e q) {w w' : World} (hb : Below w.heap.size w w') : LexMade r w (.returned (.tuple #[.slice none 0 0, .int .i64 e, .int .i64 (q : Nat)])) w' := by
  subst h; exact ⟨rfl, hb⟩
theorem lexMade_ok {r : LR} {T : List (TK × Nat)} (h : r = .ok T) {w w' : World} {v : Value} (hr : TokRow w.heap.size w' v T) (hb : Below w.heap.size w w') : LexMade r w (.returned (.tuple #[v, .int .i64 0, .int .i64 0])) w' := by
  subst h; exact ⟨v, rfl, hr, hb⟩
set_option maxRecDepth 100000 in
set_option maxHeartbeats 4000000 in
theorem lex_Lex (s : ByteArray) (w : World) (hy : Syms w) : Calls Tryd.prog 18 #[.string s] w (LexMade (LexV s.data.toList) w) := by
  by_cases hbig : 4096 < s.size
  · have g1 : decide (4096 < (s.size : Int)) = true := decide_eq_true (by omega)
    have g2 : decide (4096 < s.size) = true := decide_eq_true hbig
    have HE := Lib.hid (lexV_big (l := s.data.toList) hbig)
    clear hbig hy
    go_enter Tryd.func18, Tryd.ntmps18
    go_wp2_with fail
    exact bodyPost_ret (v := .tuple #[.slice none 0 0, .int .i64 4, .int .i64 0]) (by simp [results, Tryd.results18, go_sem]) rfl (lexMade_bad HE.out (Below.refl _ _))
  · have g1 : decide (4096 < (s.size : Int)) = false := decide_eq_false (by omega)
    have g2 : decide (4096 < s.size) = false := decide_eq_false hbig
    have hs : s.size ≤ 4096 := by omega
    have HY := Lib.hid hy
    have HK0 := Lib.hid (LexKeep.start s)
    have HS0 := Lib.hid (LS.start s w)
    obtain ⟨i0, hi0, hz0, hz1, hz2⟩ := tok_info
    clear hbig hy
    go_enter Tryd.func18, Tryd.ntmps18
    go_wp2_with fail
    go_loopw [5, 6] (fun ut ve wr => ∃ (T : List (TK × Nat)) (pos en : Nat) (vt : Value), vt = ut ∧ pos ≤ s.size ∧ ve = .int .i64 en ∧ en ≤ s.size ∧ T.length ≤ pos ∧ Hid (LS s w T vt pos wr) ∧ Hid (LexKeep s T pos en)) (fun _ _ wr => s.size - wr.iterPos w.heap.size)
    case atStart => exact ⟨[], 0, 0, _, rfl, by omega, by go_num, by omega, by simp, HS0, HK0⟩
    case round =>
      obtain ⟨T, pos, en, vt, rfl, hpl, rfl, hen, hT, HS, HK⟩ := hrel
      clear HK0 HS0
      have hit := HS.out.1
      by_cases hp : pos < s.size
      · have hnx : ∀ ty, (Instr.next (.pointer (some ⟨w.heap.size, 0, none⟩)) true ty).run Tryd.prog wr = _ := fun ty => Lib.run_next_any_at wr w.heap.size s pos ty hit hp
        have hpos : wr.iterPos w.heap.size = pos := by unfold World.iterPos; rw [hit]
        have HN := Lib.hid (HS.out.next (pos + (Utf8.decode s pos).2))
        have hwd : 1 ≤ (Utf8.decode s pos).2 ∧ pos + (Utf8.decode s pos).2 ≤ s.size := by
          by_cases ha : (s[pos]'hp).toNat < 128
          · rw [decode_ascii s pos hp ha]; exact ⟨Nat.le_refl _, hp⟩
          · have := decode_bytes s pos hp (by omega)
            exact ⟨this.2.1, this.1⟩
        by_cases he : pos < en
        · have g3 : decide ((pos : Int) < (en : Int)) = true := decide_eq_true (by omega)
          have g4 : decide (pos < en) = true := decide_eq_true he
          obtain ⟨h1, h2⟩ := HK.out.skip hp he
          have HK2 := Lib.hid h1
          have hw1 : (Utf8.decode s pos).2 = 1 := by rw [decode_ascii s pos hp h2]
          rw [hw1] at hnx HN hwd
          clear hw1 h1 h2 HK he
          generalize (Utf8.decode s pos).1 = x at *
          generalize wr.iterAt w.heap.size s (pos + 1) = w2 at *
          have hp2 : w2.iterPos w.heap.size = pos + 1 := by unfold World.iterPos; rw [HN.out.1]
          go_wp2_with fail
          go_roundw
          case rel => exact ⟨T, pos + 1, en, vt, rfl, by omega, by go_num, hen, by omega, HN, HK2⟩
          case measure => rw [hp2, hpos]; omega
        · have g3 : decide ((pos : Int) < (en : Int)) = false := decide_eq_false (by omega)
          have g4 : decide (pos < en) = false := decide_eq_false he
          have hx := rune_of s pos hp
          obtain ⟨_, _, _, _, _, h32, h10⟩ := hx.same
          cases hbl : isBlank (s[pos]'hp) with
          | true =>
            have HK2 := Lib.hid (HK.out.blank hp he hbl)
            have hlt : (s[pos]'hp).toNat < 128 := by
              unfold isBlank at hbl
              simp only [Bool.or_eq_true, decide_eq_true_eq] at hbl
              rcases hbl with h | h <;> (rw [h]; decide)
            have hor : decide ((s[pos]'hp) = 32) = true ∨ (decide ((s[pos]'hp) = 32) = false ∧ decide ((s[pos]'hp) = 10) = true) := by
              unfold isBlank at hbl
              cases hd : decide ((s[pos]'hp) = 32) with
              | true => exact .inl rfl
              | false => rw [hd, Bool.false_or] at hbl; exact .inr ⟨rfl, hbl⟩
            have hw1 : (Utf8.decode s pos).2 = 1 := by rw [decode_ascii s pos hp hlt]
            rw [hw1] at hnx HN hwd
            clear hw1 hx HK hlt he hbl
            generalize (Utf8.decode s pos).1 = x at *
            generalize wr.iterAt w.heap.size s (pos + 1) = w2 at *
            have hp2 : w2.iterPos w.heap.size = pos + 1 := by unfold World.iterPos; rw [HN.out.1]
            rcases hor with h1 | ⟨h1, h2⟩
            · rw [h1] at h32
              clear h1 h10
              go_wp2_with fail
              go_roundw
              case rel => exact ⟨T, pos + 1, en, vt, rfl, by omega, by go_num, hen, by omega, HN, HK2⟩
              case measure => rw [hp2, hpos]; omega
            · rw [h1] at h32
              rw [h2] at h10
              clear h1 h2
              go_wp2_with fail
              go_roundw
              case rel => exact ⟨T, pos + 1, en, vt, rfl, by omega, by go_num, hen, by omega, HN, HK2⟩
              case measure => rw [hp2, hpos]; omega
          | false =>
            have hor : decide ((s[pos]'hp) = 32) = false ∧ decide ((s[pos]'hp) = 10) = false := by
              unfold isBlank at hbl
              exact ⟨(Bool.or_eq_false_iff.1 hbl).1, (Bool.or_eq_false_iff.1 hbl).2⟩
            rw [hor.1] at h32
            rw [hor.2] at h10
            have HRD : Hid (∀ W, Syms W → Calls Tryd.prog 29 #[.string (s.extract pos s.size), .int .i32 (Utf8.decode s pos).1] W (OneIs (oneV (s.data.toList.drop pos)) W)) := Lib.hid (fun W hW => by
              have h9 := lex_read (s.extract pos s.size) (Utf8.decode s pos).1 W (by rw [ByteArray.size_extract]; omega) hW (s[pos]'hp) (s.data.toList.drop (pos + 1)) (by rw [extract_drop]; exact drop_cons s pos hp) hx
              rw [extract_drop] at h9
              exact h9)
            have HTK := Lib.hid (fun (t : TK) (n : Nat) (ht : oneV (s.data.toList.drop pos) = .tok t n) => HK.out.tok hp he hbl ht)
            have HER := Lib.hid (fun (e : Int) (ht : oneV (s.data.toList.drop pos) = .err e) => (show LexV s.data.toList = .bad e pos ∧ (e = 2 ∨ e = 20) from ⟨HK.out.err hs hp he hbl ht, by rw [drop_cons s pos hp] at ht; exact oneV_bad hbl ht⟩))
            have HW1 := Lib.hid (fun (ha : (s[pos]'hp).toNat < 128) => (show (Utf8.decode s pos).2 = 1 by rw [decode_ascii s pos hp ha]))
            have HSY := Lib.hid (HY.out.below HN.out.2.2)
            generalize oneV (s.data.toList.drop pos) = rr at *
            have g5 : (pos : Int) ≤ (s.size : Int) := by omega
            clear hor hx HK hbl he
            generalize (Utf8.decode s pos).1 = x at *
            generalize (Utf8.decode s pos).2 = k at *
            generalize wr.iterAt w.heap.size s (pos + k) = w2 at *
            go_wp2_with fail
            refine (HRD.out _ HSY.out).mono ?_
            rintro e W1 ho
            obtain ⟨t, n, er, rfl, hb1, hor⟩ := oneIs_size ho
            obtain ⟨tk, tt, tn⟩ := t
            have HN1 := Lib.hid (HN.out.below hb1)
            clear ho hb1 HRD HSY HN
            unfold tokAgg
            rcases hor with ⟨rfl, hrr⟩ | ⟨hrr, _, _⟩
            · obtain ⟨h1, h2, h3, h4⟩ := HTK.out _ _ hrr
              have hk1 := HW1.out h2
              have HK2 := Lib.hid h1
              subst hk1
              clear hrr h1 h2 HTK HER HW1
              have E1 : wrap64 ((pos : Int) + (n : Int)) = ((pos + n : Nat) : Int) := by unfold wrap64; omega
              have HBX : Hid (TokBox (W1.alloc (.cells #[.int .i64 tk, .int .i64 (pos : Int), .string ⟨tt.toArray⟩, .int .i64 tn] 43 (0, 0))) W1.heap.size tk pos ⟨tt.toArray⟩ tn) := Lib.hid (box_at W1 _ _ rfl)
              have HN1a := Lib.hid (HN1.out.below (below_one' (w := W1) (.cells #[.int .i64 tk, .int .i64 (pos : Int), .string ⟨tt.toArray⟩, .int .i64 tn] 43 (0, 0))))
              go_upto_region 13 with fail
              generalize W1.alloc (.cells #[.int .i64 tk, .int .i64 (pos : Int), .string ⟨tt.toArray⟩, .int .i64 tn] 43 (0, 0)) = w5 at *
              generalize W1.heap.size = bx at *
              obtain ⟨c0, c1, c2, c3, _⟩ := HBX.out.cells
              have hbl := box_lt HBX.out
              have hown : Hid ((w5.alloc (.cells #[.int .i64 tk, .int .i64 (pos : Int), .string ⟨tt.toArray⟩, .int .i64 tn] 43 (0, 0))).ownsRow w.heap.size 43 4 vt T.length (tokCells T)) := Lib.hid (World.ownsRow.alloc HN1a.out.2.1 _)
              have hsrc := Lib.hid (tok_cells4 w5 tk (pos : Int) tn ⟨tt.toArray⟩)
              have hone := Lib.hid (tok_one tk (pos : Int) tn ⟨tt.toArray⟩)
              have hbw : w.heap.size ≤ (w5.alloc (.cells #[.int .i64 tk, .int .i64 (pos : Int), .string ⟨tt.toArray⟩, .int .i64 tn] 43 (0, 0))).heap.size := by have := HN1a.out.lt; simp; omega
              have HN2 := Lib.hid (HN1a.out.below (below_one' (.cells #[.int .i64 tk, .int .i64 (pos : Int), .string ⟨tt.toArray⟩, .int .i64 tn] 43 (0, 0))))
              go_wp2_with (at_builtin; refine wpList_append_own_at _ rfl (.tmp 47) (.tmp 49) 37 rfl w.heap.size 43 i0 _ 4 40 Tryd.underlying37 hi0 hz0 hz1 hz2 rfl (by decide) _ _ _ rfl hown.out ⟨w5.heap.size, 0, none⟩ 1 1 [.int .i64 tk, .int .i64 (pos : Int), .string ⟨tt.toArray⟩, .int .i64 tn] rfl rfl hsrc.out hone.out (by unfold maxLen; omega) (by omega) hbw ?_)
              intro v1 w4 hown1 hgr1 hnn1 hat1
              have HN3 := Lib.hid (HN2.out.push hgr1 hown1)
              clear hown1 hgr1 hnn1 hat1 hown hsrc hone hbw HN2 HN1 HN1a c0 c1 c2 c3 hbl HBX
              have hp2 : w4.iterPos w.heap.size = pos + 1 := by unfold World.iterPos; rw [HN3.out.1]
              go_wp2_with fail
              go_roundw
              case rel => exact ⟨T ++ [(⟨tk, tt, tn⟩, pos)], pos + 1, pos + n, v1, rfl, by omega, by first | rfl | (rw [E1]), by omega, by rw [List.length_append]; simp; omega, HN3, HK2⟩
              case measure => rw [hp2, hpos]; omega
            · obtain ⟨h1, h2⟩ := HER.out _ hrr
              have HE := Lib.hid h1
              have B1 : (er != 0) = true := by rw [bne_iff_ne]; omega
              clear hrr h1 HTK HER HW1
              go_wp2_with fail
              exact bodyPost_ret (v := .tuple #[.slice none 0 0, .int .i64 er, .int .i64 (pos : Int)]) (by simp [results, Tryd.results18, go_sem]) rfl (lexMade_bad HE.out (HN1.out.2.2.alloc HN1.out.2.2.size _))
      · have hnx : ∀ ty, (Instr.next (.pointer (some ⟨w.heap.size, 0, none⟩)) true ty).run Tryd.prog wr = _ := fun ty => Lib.run_next_end_at wr w.heap.size s pos ty hit hp
        obtain rfl : pos = s.size := by omega
        have HE := Lib.hid (HK.out.stop hs)
        have hown : Hid ((wr.alloc (.cells #[.int .i64 0, .int .i64 (s.size : Int), .string ⟨#[]⟩, .int .i64 0] 43 (0, 0))).ownsRow w.heap.size 43 4 vt T.length (tokCells T)) := Lib.hid (World.ownsRow.alloc HS.out.2.1 _)
        have hsrc := Lib.hid (tok_cells4 wr 0 (s.size : Int) 0 ⟨#[]⟩)
        have hone := Lib.hid (tok_one 0 (s.size : Int) 0 ⟨#[]⟩)
        have hbw : w.heap.size ≤ (wr.alloc (.cells #[.int .i64 0, .int .i64 (s.size : Int), .string ⟨#[]⟩, .int .i64 0] 43 (0, 0))).heap.size := by have := HS.out.lt; simp; omega
        have HN2 := Lib.hid (HS.out.below (below_one' (.cells #[.int .i64 0, .int .i64 (s.size : Int), .string ⟨#[]⟩, .int .i64 0] 43 (0, 0))))
        clear hit HK HS
        go_wp2_with (at_builtin; refine wpList_append_own_at _ rfl (.tmp 54) (.tmp 58) 37 rfl w.heap.size 43 i0 _ 4 40 Tryd.underlying37 hi0 hz0 hz1 hz2 rfl (by decide) _ _ _ rfl hown.out ⟨wr.heap.size, 0, none⟩ 1 1 [.int .i64 0, .int .i64 (s.size : Int), .string ⟨#[]⟩, .int .i64 0] (by first | rfl | simp) rfl hsrc.out hone.out (by unfold maxLen; omega) (by omega) hbw ?_)
        intro v1 w4 hown1 hgr1 hnn1 hat1
        have HN3 := Lib.hid (HN2.out.push (x := []) hgr1 hown1)
        clear hown1 hgr1 hnn1 hat1 hown hsrc hone hbw HN2
        go_wp2_with fail
        exact bodyPost_ret (v := .tuple #[v1, .int .i64 0, .int .i64 0]) (by simp [results, Tryd.results18, go_sem]) rfl (lexMade_ok HE.out HN3.out.2.1 HN3.out.2.2)
end
section
open Go.RowKit
def YesMade (b : Bool) (w : World) (e : Ending) (w' : World) : Prop := e = .returned (.bool b) ∧ Below w.heap.size w w'
/-- Is it some name's text? -/
def isNam (l : List UInt8) : Bool := l.head?.any isLow && decide ((nameOf l).length = l.length) && !isKey l
set_option maxRecDepth 100000 in
set_option maxHeartbeats 2000000 in
theorem lex_IsName (s : ByteArray) (w : World) : Calls Tryd.prog 12 #[.string s] w (YesMade (isNam s.data.toList) w) := by
  by_cases h0 : 0 < s.size
  · have e0 : s.toList.isEmpty = false := by
      rw [list_of, List.isEmpty_eq_false_iff]
      intro h9
      have h8 : s.size = 0 := congrArg List.length h9
      omega
    have e1 : (s.toList == []) = false := by rw [beq_eq_false_iff_ne]; intro h9; rw [h9] at e0; cases e0
    have hl : s.data.toList.length = s.size := rfl
    have hix := fun W => index_at s 0 h0 0 rfl W
    have HE : Hid (isNam s.data.toList = (isLow s[0] && decide ((nameOf s.data.toList).length = s.size) && !isKey s.data.toList)) := Lib.hid (by
      unfold isNam
      rw [head_of s h0]
      rfl)
    have HN := Lib.hid (fun W => lex_nameSize s W)
    have HK := Lib.hid (fun W => lex_IsWord s W)
    generalize isNam s.data.toList = b at *
    generalize isKey s.data.toList = kb at *
    generalize (nameOf s.data.toList).length = n at *
    generalize s[0] = c at *
    have HL := Lib.hid (fun W => lex_low c.toNat W)
    rw [low_at] at HL
    generalize isLow c = lb at *
    have E1 : IntKind.i32.wrap (c.toNat : Int) = (c.toNat : Int) := by rw [IntKind.wrap_i32]; have := c.toNat_lt; omega
    clear hl
    go_enter Tryd.func12, Tryd.ntmps12
    go_wp2_with fail
    refine (HL.out _).mono ?_
    rintro e w' ⟨rfl, rfl⟩
    cases lb with
    | false =>
      go_wp2_with fail
      go_ret
      exact ⟨by rw [HE.out]; rfl, Below.refl _ _⟩
    | true =>
      clear HL hix
      go_wp2_with fail
      refine (HN.out _).mono ?_
      rintro e w1 ⟨rfl, hb1⟩
      have HB := Lib.hid hb1
      clear hb1 HN
      by_cases hn : n = s.size
      · have B1 : ((n : Int) == (s.size : Int)) = true := by rw [beq_iff_eq]; omega
        have B2 : (n == s.size) = true := by rw [beq_iff_eq]; exact hn
        have HE2 : Hid (b = !kb) := Lib.hid (by rw [HE.out, decide_eq_true hn]; rfl)
        clear hn
        go_wp2_with fail
        refine (HK.out _).mono ?_
        rintro e w' ⟨rfl, rfl⟩
        go_wp2_with fail
        go_ret
        exact ⟨by rw [HE2.out]; rfl, HB.out⟩
      · have B1 : ((n : Int) == (s.size : Int)) = false := by rw [beq_eq_false_iff_ne]; omega
        have B2 : (n == s.size) = false := by rw [beq_eq_false_iff_ne]; exact hn
        have HE2 : Hid (b = false) := Lib.hid (by rw [HE.out, decide_eq_false hn]; rfl)
        clear hn
        go_wp2_with fail
        go_ret
        exact ⟨by rw [HE2.out]; rfl, HB.out⟩
  · have e0 : s.toList.isEmpty = true := by
      rw [list_of, List.isEmpty_iff]
      exact List.eq_nil_of_length_eq_zero (by show s.size = 0; omega)
    have e1 : (s.toList == []) = true := by rw [beq_iff_eq, ← List.isEmpty_iff]; exact e0
    have HE : Hid (isNam s.data.toList = false) := Lib.hid (by rw [empty_of s h0]; rfl)
    go_enter Tryd.func12, Tryd.ntmps12
    go_wp2_with fail
    go_ret
    exact ⟨by rw [HE.out]; rfl, Below.refl _ _⟩
def awToks : List (TK × Nat) := [(⟨6, [108, 101, 116], 0⟩, 0), (⟨1, [120], 0⟩, 4), (⟨7, [61], 0⟩, 5), (⟨3, [65], 0⟩, 6), (⟨4, [], 5⟩, 9), (⟨0, [], 0⟩, 10)]
theorem aw_lex1_v : LexV [108, 101, 116, 32, 120, 61, 35, 65, 32, 53] = .ok awToks := by kernel_rfl
theorem aw_lex2_v : LexV [120, 32, 49, 50, 97] = .bad 20 2 := by kernel_rfl
theorem aw_lex1 (w : World) (hy : Syms w) : Calls Tryd.prog 18 #[.string ⟨#[108, 101, 116, 32, 120, 61, 35, 65, 32, 53]⟩] w (LexMade (.ok awToks) w) := by
  rw [← aw_lex1_v]; exact lex_Lex ⟨#[108, 101, 116, 32, 120, 61, 35, 65, 32, 53]⟩ w hy
theorem aw_lex2 (w : World) (hy : Syms w) : Calls Tryd.prog 18 #[.string ⟨#[120, 32, 49, 50, 97]⟩] w (LexMade (.bad 20 2) w) := by
  rw [← aw_lex2_v]; exact lex_Lex ⟨#[120, 32, 49, 50, 97]⟩ w hy
theorem aw_word (l : List UInt8) (b : Bool) (h : isKey l = b) (w : World) : Calls Tryd.prog 10 #[.string ⟨l.toArray⟩] w fun e w' => e = .returned (.bool b) ∧ w = w' := by
  subst h; exact lex_IsWord ⟨l.toArray⟩ w
theorem aw_name (l : List UInt8) (b : Bool) (h : isNam l = b) (w : World) : Calls Tryd.prog 12 #[.string ⟨l.toArray⟩] w (YesMade b w) := by
  subst h; exact lex_IsName ⟨l.toArray⟩ w
set_option maxRecDepth 100000 in
set_option maxHeartbeats 2000000 in
theorem awake5_any (w : World) (hy : Syms w) : Calls Tryd.prog 9 #[] w (YesMade true w) := by
  have HY := Lib.hid hy
  clear hy
  go_enter Tryd.func9, Tryd.ntmps9
  go_wp2_with fail
  refine (aw_lex1 _ HY.out).mono ?_
  rintro e w1 ⟨v, rfl, hr, hb1⟩
  obtain ⟨A, c, rfl, hv⟩ := hr.view
  obtain ⟨g, rfl, _, hg, k0, _, _, _⟩ := hv 0 _ rfl
  obtain ⟨g', e1, _, _, _, _, k1, _⟩ := hv 1 _ rfl
  obtain rfl : g = g' := by simpa using e1
  obtain ⟨g', e3, _, _, _, _, k3, _⟩ := hv 3 _ rfl
  obtain rfl : g = g' := by simpa using e3
  obtain ⟨g', e4, _, _, _, _, _, k4⟩ := hv 4 _ rfl
  obtain rfl : g = g' := by simpa using e4
  obtain ⟨g', e5, _, _, _, k5, _, _⟩ := hv 5 _ rfl
  obtain rfl : g = g' := by simpa using e5
  have HB1 := Lib.hid hb1
  have HY1 := Lib.hid (HY.out.below hb1)
  have HK : Hid (w1.cell? ⟨g, 0, none⟩ = some (.int .i64 6) ∧ w1.cell? ⟨g, 6, none⟩ = some (.string ⟨#[120]⟩) ∧ w1.cell? ⟨g, 14, none⟩ = some (.string ⟨#[65]⟩) ∧ w1.cell? ⟨g, 19, none⟩ = some (.int .i64 5) ∧ w1.cell? ⟨g, 21, none⟩ = some (.int .i64 10) ∧ g < w1.heap.size) := Lib.hid ⟨k0, k1, k3, k4, k5, hg⟩
  clear hr hv e1 e3 e4 e5 k0 k1 k3 k4 k5 hb1 hg
  go_wp2_with fail
  refine (aw_lex2 _ HY1.out).mono ?_
  rintro e w2 ⟨rfl, hb2⟩
  obtain ⟨k0, k1, k3, k4, k5, hg⟩ := HK.out
  replace k0 := (hb2.cell (p := ⟨g, 0, none⟩) hg).trans k0
  replace k1 := (hb2.cell (p := ⟨g, 6, none⟩) hg).trans k1
  replace k3 := (hb2.cell (p := ⟨g, 14, none⟩) hg).trans k3
  replace k4 := (hb2.cell (p := ⟨g, 19, none⟩) hg).trans k4
  replace k5 := (hb2.cell (p := ⟨g, 21, none⟩) hg).trans k5
  have hg2 : g < w2.heap.size := Nat.lt_of_lt_of_le hg hb2.size
  have HB2 := Lib.hid (HB1.out.trans (hb2.mono HB1.out.size))
  have hlen : (awToks.length : Int) = 6 := rfl
  have hlen2 : awToks.length = 6 := rfl
  clear hg hb2 HK HB1 HY1
  go_wp2_with fail
  refine (aw_word [108, 101, 116] true (by decide) _).mono ?_
  rintro e w' ⟨rfl, rfl⟩
  go_wp2_with fail
  refine (aw_word [120] false (by decide) _).mono ?_
  rintro e w' ⟨rfl, rfl⟩
  go_wp2_with fail
  refine (aw_name [120] true (by decide) _).mono ?_
  rintro e w3 ⟨rfl, hb3⟩
  have HB3 := Lib.hid (HB2.out.trans (hb3.mono HB2.out.size))
  clear hb3 HB2 k0 k1 k3 k4 k5 hg2
  go_wp2_with fail
  refine (aw_name [108, 101, 116] false (by decide) _).mono ?_
  rintro e w4 ⟨rfl, hb4⟩
  have HB4 := Lib.hid (HB3.out.trans (hb4.mono HB3.out.size))
  clear hb4 HB3
  go_wp2_with fail
  go_ret
  exact ⟨rfl, HB4.out⟩
end
section
open Go.RowKit
theorem lexV_ok {l : List UInt8} {X : List (TK × Nat)} (h : lexGo 0 0 l = .ok X) (hl : l.length ≤ 4096) : LexV l = .ok (X ++ [(⟨0, [], 0⟩, l.length)]) := by
  unfold LexV
  rw [if_neg (by omega), h]
theorem lexV_form (l : List UInt8) : (∃ X, LexV l = .ok (X ++ [(⟨0, [], 0⟩, l.length)]) ∧ lexGo 0 0 l = .ok X ∧ l.length ≤ 4096) ∨ (LexV l = .bad 4 0 ∧ 4096 < l.length) ∨ ∃ e q, LexV l = .bad e q ∧ lexGo 0 0 l = .bad e q ∧ l.length ≤ 4096 ∧ (e = 2 ∨ e = 20) ∧ q < l.length := by
  by_cases hb : 4096 < l.length
  · exact .inr (.inl ⟨lexV_big hb, hb⟩)
  · cases hg : lexGo 0 0 l with
    | ok X => exact .inl ⟨X, lexV_ok hg (by omega), rfl, by omega⟩
    | bad e q =>
      obtain ⟨_, h2, h3⟩ := lexGo_bad 0 l e q hg
      refine .inr (.inr ⟨e, q, ?_, rfl, by omega, h3, by omega⟩)
      unfold LexV
      rw [if_neg hb, hg]
/-- What Lex gave. -/
def LexOut (l : List UInt8) (B : Nat) (v : Value) (er : Int) (q : Nat) (w' : World) : Prop :=
  (er = 0 ∧ q = 0 ∧ l.length ≤ 4096 ∧ ∃ X, lexGo 0 0 l = .ok X ∧ TokRow B w' v (X ++ [(⟨0, [], 0⟩, l.length)])) ∨
  (v = .slice none 0 0 ∧ ((er = 4 ∧ q = 0 ∧ 4096 < l.length) ∨ (l.length ≤ 4096 ∧ (er = 2 ∨ er = 20) ∧ q < l.length ∧ lexGo 0 0 l = .bad er q)))
theorem LexOut.keep {l : List UInt8} {B : Nat} {v : Value} {er : Int} {q : Nat} {w w' : World} (h : LexOut l B v er q w) (hb : Below w.heap.size w w') : LexOut l B v er q w' := by
  rcases h with ⟨h1, h2, h3, X, h4, h5⟩ | h
  · exact .inl ⟨h1, h2, h3, X, h4, h5.below hb⟩
  · exact .inr h
theorem lex_out (s : ByteArray) (w : World) (hy : Syms w) : Calls Tryd.prog 18 #[.string s] w (fun e w' => ∃ v er q, e = .returned (.tuple #[v, .int .i64 er, .int .i64 (q : Nat)]) ∧ Below w.heap.size w w' ∧ LexOut s.data.toList w.heap.size v er q w') := by
  refine (lex_Lex s w hy).mono ?_
  intro e w' h
  rcases lexV_form s.data.toList with ⟨X, h1, h2, h3⟩ | ⟨h1, h2⟩ | ⟨er, q, h1, h2, h3, h4, h5⟩
  · rw [h1] at h
    obtain ⟨v, rfl, hr, hb⟩ := h
    exact ⟨v, 0, 0, rfl, hb, .inl ⟨rfl, rfl, h3, X, h2, hr⟩⟩
  · rw [h1] at h
    obtain ⟨rfl, hb⟩ := h
    exact ⟨_, 4, 0, rfl, hb, .inr ⟨rfl, .inl ⟨rfl, rfl, h2⟩⟩⟩
  · rw [h1] at h
    obtain ⟨rfl, hb⟩ := h
    exact ⟨_, er, q, rfl, hb, .inr ⟨rfl, .inr ⟨h3, h4, h5, h2⟩⟩⟩
theorem lexGo_len (p : Nat) (l : List UInt8) : ∀ T, lexGo p 0 l = .ok T → T.length ≤ l.length := by
  refine lexGo_ind (fun p l => ∀ T, lexGo p 0 l = .ok T → T.length ≤ l.length) ?_ ?_ ?_ ?_ l.length p l (Nat.le_refl _)
  · intro p T h
    obtain rfl : [] = T := LR.ok.inj h
    simp
  · intro p c r hc ih T h
    rw [lexGo_blank hc] at h
    have := ih T h
    rw [List.length_cons]; omega
  · intro p c r e hc h T hT
    rw [lexGo_err hc _ h] at hT; cases hT
  · intro p c r t n hc h ih T hT
    rw [lexGo_tok hc _ h] at hT
    obtain ⟨U, hU, rfl⟩ := LR.add_ok hT
    obtain ⟨_, h2, h3, _⟩ := oneV_tok h
    have := ih U hU
    rw [List.length_drop] at this
    rw [List.length_append, List.length_singleton]
    omega
theorem lexGo_pos (p : Nat) (l : List UInt8) : ∀ T, lexGo p 0 l = .ok T → ∀ x ∈ T, p ≤ x.2 ∧ x.2 < p + l.length := by
  refine lexGo_ind (fun p l => ∀ T, lexGo p 0 l = .ok T → ∀ x ∈ T, p ≤ x.2 ∧ x.2 < p + l.length) ?_ ?_ ?_ ?_ l.length p l (Nat.le_refl _)
  · intro p T h x hx
    obtain rfl : [] = T := LR.ok.inj h
    cases hx
  · intro p c r hc ih T h x hx
    rw [lexGo_blank hc] at h
    have := ih T h x hx
    rw [List.length_cons]; omega
  · intro p c r e hc h T hT
    rw [lexGo_err hc _ h] at hT; cases hT
  · intro p c r t n hc h ih T hT x hx
    rw [lexGo_tok hc _ h] at hT
    obtain ⟨U, hU, rfl⟩ := LR.add_ok hT
    obtain ⟨_, h2, h3, _⟩ := oneV_tok h
    rcases List.mem_append.1 hx with hx | hx
    · obtain rfl := List.mem_singleton.1 hx
      exact ⟨Nat.le_refl _, by rw [List.length_cons]; show p < _; omega⟩
    · have := ih U hU x hx
      rw [List.length_drop] at this
      omega
/-- All tokens and the end stand within the text. -/
theorem toks_pos {l : List UInt8} {X : List (TK × Nat)} (h : lexGo 0 0 l = .ok X) (i : Nat) (t : TK × Nat) (ht : (X ++ [((⟨0, [], 0⟩ : TK), l.length)])[i]? = some t) : t.2 ≤ l.length := by
  rcases List.mem_append.1 (List.mem_of_getElem? ht) with hx | hx
  · have := lexGo_pos 0 l X h t hx; omega
  · obtain rfl := List.mem_singleton.1 hx
    exact Nat.le_refl _
theorem joined (a b : ByteArray) : (a ++ b).data.toList = a.data.toList ++ b.data.toList := by simp
theorem TokRow.at_ {B : Nat} {w : World} {v : Value} {T : List (TK × Nat)} (h : TokRow B w v T) : ∃ A c, v = .slice A T.length c ∧ ∀ (W : World) (i : Nat) (t : TK × Nat), T[i]? = some t → Below w.heap.size w W → ∃ g, A = some ⟨g, 0, none⟩ ∧ B ≤ g ∧ g < w.heap.size ∧ g < W.heap.size ∧ W.cell? ⟨g, i * 4, none⟩ = some (.int .i64 t.1.kind) ∧ W.cell? ⟨g, i * 4 + 1, none⟩ = some (.int .i64 (t.2 : Nat)) ∧ W.cell? ⟨g, i * 4 + 2, none⟩ = some (.string ⟨t.1.text.toArray⟩) ∧ W.cell? ⟨g, i * 4 + 3, none⟩ = some (.int .i64 t.1.n) := by
  obtain ⟨A, c, rfl, hv⟩ := h.view
  refine ⟨A, c, rfl, fun W i t ht hb => ?_⟩
  obtain ⟨g, rfl, h1, h2, k0, k1, k2, k3⟩ := hv i t ht
  exact ⟨g, rfl, h1, h2, Nat.lt_of_lt_of_le h2 hb.size, (hb.cell (p := ⟨g, i * 4, none⟩) h2).trans k0, (hb.cell (p := ⟨g, i * 4 + 1, none⟩) h2).trans k1, (hb.cell (p := ⟨g, i * 4 + 2, none⟩) h2).trans k2, (hb.cell (p := ⟨g, i * 4 + 3, none⟩) h2).trans k3⟩
end
section
open Go.RowKit
theorem readGo_small {l : List UInt8} : ∀ {m n : Int}, 0 ≤ m → m ≤ 4611686018427387903 → l.all isDig = true → readGo m l = some n → 0 ≤ n ∧ n ≤ 4611686018427387903 := by
  induction l with
  | nil => intro m n hm h0 _ h; rw [readGo] at h; cases h; exact ⟨hm, h0⟩
  | cons c r ih =>
    intro m n hm h0 ha h
    rw [List.all_cons, Bool.and_eq_true] at ha
    obtain ⟨_, h1, h2⟩ := dig_back c ha.1
    rw [readGo] at h
    split at h
    · cases h
    · exact ih (by omega) (by omega) ha.2 h
theorem readV_small (l : List UInt8) : 0 ≤ (ReadV l).1 ∧ (ReadV l).1 ≤ 4611686018427387903 := by
  unfold ReadV
  split
  · rename_i hn
    split
    · rename_i m hm
      unfold isNum at hn
      rw [Bool.and_eq_true] at hn
      exact readGo_small (by omega) (by omega) hn.1 hm
    · exact ⟨by decide, by decide⟩
  · exact ⟨by decide, by decide⟩
structure Small (b : Nat) (t : TK) : Prop where
  len : t.text.length ≤ b
  lo : 0 ≤ t.n
  hi : t.n ≤ 4611686018427387903
theorem Small.mono {b c : Nat} {t : TK} (h : Small b t) (hb : b ≤ c) : Small c t := ⟨Nat.le_trans h.len hb, h.lo, h.hi⟩
theorem oneV_small {l : List UInt8} {t : TK} {n : Nat} (h : oneV l = .tok t n) : Small l.length t := by
  have ht := oneV_tok h
  cases l with
  | nil => cases h
  | cons c r =>
    have hnl := nameOf_len (c :: r)
    rw [oneV_cons] at h
    split at h
    · obtain ⟨rfl, _⟩ := OneR.tok.inj h
      exact ⟨hnl, by show (0 : Int) ≤ 0; decide, by show (0 : Int) ≤ _; decide⟩
    · split at h
      · obtain ⟨rfl, _⟩ := OneR.tok.inj h
        exact ⟨hnl, by show (0 : Int) ≤ 0; decide, by show (0 : Int) ≤ _; decide⟩
      · split at h
        · unfold tagTok at h
          split at h
          · obtain ⟨rfl, _⟩ := OneR.tok.inj h
            have := nameOf_len r
            exact ⟨by show (nameOf r).length ≤ _; rw [List.length_cons]; omega, by show (0 : Int) ≤ 0; decide, by show (0 : Int) ≤ _; decide⟩
          · cases h
        · split at h
          · unfold intTok at h
            split at h
            · obtain ⟨rfl, _⟩ := OneR.tok.inj h
              have := readV_small (nameOf (c :: r))
              exact ⟨Nat.zero_le _, this.1, this.2⟩
            · cases h
          · split at h
            · unfold strTok at h
              split at h
              · obtain ⟨rfl, rfl⟩ := OneR.tok.inj h
                obtain ⟨h1, h2, _⟩ := ht
                have h3 := congrArg List.length h1
                rw [List.length_take] at h3
                have h4 : tokText ⟨5, (UnqV ((c :: r).take (qsize (c :: r)))).1, 0⟩ = qall (UnqV ((c :: r).take (qsize (c :: r)))).1 := rfl
                rw [h4] at h3
                have h5 := qbody_long (UnqV ((c :: r).take (qsize (c :: r)))).1
                have h6 : ∀ z : List UInt8, (qall z).length = (qbody z).length + 2 := fun z => by simp [qall]
                rw [h6] at h3
                exact ⟨by show (UnqV ((c :: r).take (qsize (c :: r)))).1.length ≤ _; omega, by show (0 : Int) ≤ 0; decide, by show (0 : Int) ≤ _; decide⟩
              · cases h
            · unfold signTok at h
              split at h
              · rename_i s hs
                obtain ⟨rfl, rfl⟩ := OneR.tok.inj h
                have h2 := ht.2.1
                exact ⟨h2, by show (0 : Int) ≤ 0; decide, by show (0 : Int) ≤ _; decide⟩
              · cases h
theorem lexGo_small (b p : Nat) (l : List UInt8) : ∀ T, l.length ≤ b → lexGo p 0 l = .ok T → ∀ x ∈ T, Small b x.1 := by
  refine lexGo_ind (fun p l => ∀ T, l.length ≤ b → lexGo p 0 l = .ok T → ∀ x ∈ T, Small b x.1) ?_ ?_ ?_ ?_ l.length p l (Nat.le_refl _)
  · intro p T _ h x hx
    obtain rfl : [] = T := LR.ok.inj h
    cases hx
  · intro p c r hc ih T hl h x hx
    rw [lexGo_blank hc] at h
    rw [List.length_cons] at hl
    exact ih T (by omega) h x hx
  · intro p c r e hc h T _ hT
    rw [lexGo_err hc _ h] at hT; cases hT
  · intro p c r t n hc h ih T hl hT x hx
    rw [lexGo_tok hc _ h] at hT
    obtain ⟨U, hU, rfl⟩ := LR.add_ok hT
    rcases List.mem_append.1 hx with hx | hx
    · obtain rfl := List.mem_singleton.1 hx
      exact (oneV_small h).mono hl
    · exact ih U (by rw [List.length_drop]; omega) hU x hx
theorem box_below (w : World) (k a n : Int) (s : ByteArray) : Below w.heap.size w (w.alloc (.cells #[.int .i64 k, .int .i64 a, .string s, .int .i64 n] 43 (0, 0))) := (Below.refl _ w).alloc (Nat.le_refl _) _
set_option maxRecDepth 100000 in
set_option maxHeartbeats 1000000 in
theorem ref_TokText (t : TK) (a : Int) (w : World) (h : Small 1000000 t) : Calls Tryd.prog 19 #[tokAgg t.kind a t.text t.n] w (StrMade (tokText t) w) := by
  obtain ⟨k, x, n⟩ := t
  obtain ⟨h1, h2, h3⟩ := h
  simp only at h1 h2 h3
  have HW := Lib.hid (box_below w k a n ⟨x.toArray⟩)
  have hxs : (⟨x.toArray⟩ : ByteArray).size = x.length := by show x.toArray.size = _; rw [List.size_toArray]
  by_cases k3 : k = 3
  · subst k3
    have HE : Hid (tokText ⟨3, x, n⟩ = [35] ++ x) := Lib.hid rfl
    have n1 : ¬ 9223372036854775807 < 1 + x.length := by omega
    unfold tokAgg
    go_enter Tryd.func19, Tryd.ntmps19
    go_wp2_with fail
    go_ret
    exact strMade_two' HE.out HW.out
  · by_cases k4 : k = 4
    · subst k4
      have HE : Hid (tokText ⟨4, x, n⟩ = Lib.itoa n) := Lib.hid rfl
      have HT := Lib.hid (fun W => ref_Text (Size n + 1) n W (by omega) (by omega) (by omega))
      unfold tokAgg
      go_enter Tryd.func19, Tryd.ntmps19
      go_wp2_with fail
      refine (HT.out _).mono ?_
      rintro e w1 ⟨rfl, hb⟩
      have HB := Lib.hid (HW.out.trans (hb.mono HW.out.size))
      clear hb
      go_wp2_with fail
      go_ret
      exact ⟨by rw [HE.out]; rfl, HB.out⟩
    · by_cases k5 : k = 5
      · subst k5
        have HE : Hid (tokText ⟨5, x, n⟩ = qall x) := Lib.hid rfl
        have HQ := Lib.hid (fun W => ref_Quote ⟨x.toArray⟩ W (by rw [hxs]; omega))
        unfold tokAgg
        go_enter Tryd.func19, Tryd.ntmps19
        go_wp2_with fail
        refine (HQ.out _).mono ?_
        rintro e w1 ⟨rfl, hb⟩
        have HB := Lib.hid (HW.out.trans (hb.mono HW.out.size))
        clear hb
        go_wp2_with fail
        go_ret
        exact ⟨by rw [HE.out]; rfl, HB.out⟩
      · have B3 : (k == 3) = false := by rw [beq_eq_false_iff_ne]; exact k3
        have B4 : (k == 4) = false := by rw [beq_eq_false_iff_ne]; exact k4
        have B5 : (k == 5) = false := by rw [beq_eq_false_iff_ne]; exact k5
        have HE : Hid (tokText ⟨k, x, n⟩ = x) := Lib.hid (by unfold tokText; rw [if_neg k3, if_neg k4, if_neg k5])
        clear k3 k4 k5
        unfold tokAgg
        go_enter Tryd.func19, Tryd.ntmps19
        go_wp2_with fail
        go_ret
        exact ⟨by rw [HE.out]; rfl, HW.out⟩
end
end Go.Proofs.YtecpldnjpapalaaDoor
