/-
  HeapApart: the row of what was laid, as the law keeps it: each with its place, its size, a row of words of its own; what each step leaves of it. Plain mathematics, and how it lies in memory.
-/
import Derived.Test.YtbmkjlpjgkfjcaaDoorHLawD
import Derived.Test.YtbmkjlpjgkfjcaaDoorHRow
import Derived.Test.YtbmkjlpjgkfjcaaDoorGAbs
namespace Go.Proofs.YtbmkjlpjgkfjcaaDoor
open Go.RowKit
theorem lies_two {words : Nat} {L : List Ob} (hl : Lies words 1 L) {a b : Nat} {x y : Ob} (hx : findOb L a = some x) (hy : findOb L b = some y) (hne : a ≠ b) : x.next ≤ b ∨ y.next ≤ a := by
  obtain ⟨h1, A, B, h2, _⟩ := find_some hx
  obtain ⟨hm, hyb⟩ := find_mem hy
  rw [h2] at hl hm
  have hm2 : y ∈ A ++ B := by
    rcases List.mem_append.1 hm with h | h
    · exact List.mem_append.2 (.inl h)
    · rcases List.mem_cons.1 h with h | h
      · subst h; omega
      · exact List.mem_append.2 (.inr h)
  have := lies_apart words 1 A B x y hl hm2
  omega
/-- What was laid is there, with the words that were set last. -/
structure Good (L : List Ob) (P : List Ob) : Prop where
  size : ∀ o ∈ P, o.kind = o.fs.length ∧ o.fs.length ≤ 4096
  there : ∀ o ∈ P, ∃ x, findOb L o.at_ = some x ∧ x.fs = o.fs
  nd : (P.map Ob.at_).Nodup
theorem good_nil (L : List Ob) : Good L [] := ⟨(fun o h => by cases h), (fun o h => by cases h), List.nodup_nil⟩
theorem Good.laid {L L' P : List Ob} (h : Good L P) {a kk nn : Nat} (hn : findOb L a = none) (hf : ∀ c, findOb L' c = if c = a then some (newOb a kk nn) else findOb L c) (h4 : nn ≤ 4096) : Good L' (P ++ [⟨a, nn, List.replicate nn 1⟩]) := by
  have hne : ∀ o ∈ P, o.at_ ≠ a := fun o ho he => by
    obtain ⟨x, hx, _⟩ := h.there o ho
    rw [he, hn] at hx; cases hx
  refine ⟨fun o ho => ?_, fun o ho => ?_, ?_⟩
  · rcases List.mem_append.1 ho with ho | ho
    · exact h.size o ho
    · obtain rfl : o = ⟨a, nn, List.replicate nn 1⟩ := by simpa using ho
      simp only [List.length_replicate]
      exact ⟨trivial, h4⟩
  · rcases List.mem_append.1 ho with ho | ho
    · obtain ⟨x, hx, he⟩ := h.there o ho
      exact ⟨x, by rw [hf, if_neg (hne o ho)]; exact hx, he⟩
    · obtain rfl : o = ⟨a, nn, List.replicate nn 1⟩ := by simpa using ho
      exact ⟨newOb a kk nn, by rw [hf, if_pos rfl], rfl⟩
  · rw [List.map_append, List.nodup_append]
    refine ⟨h.nd, by simp, fun c hc d hd => ?_⟩
    obtain rfl : d = a := by simpa using hd
    obtain ⟨o, ho, rfl⟩ := List.mem_map.1 hc
    exact hne o ho
theorem good_apart {words : Nat} {L L' P : List Ob} (h : Good L P) {a kk nn : Nat} (hl : Lies words 1 L') (hn : findOb L a = none) (hf : ∀ c, findOb L' c = if c = a then some (newOb a kk nn) else findOb L c) :
    (∀ o ∈ P, o.at_ + o.kind < a ∨ a + nn < o.at_) ∧ 1 ≤ a ∧ a + nn < words := by
  have hnew : findOb L' a = some (newOb a kk nn) := by rw [hf, if_pos rfl]
  have hnl : (newOb a kk nn).next = a + 1 + nn := by simp [Ob.next, newOb]
  refine ⟨fun o ho => ?_, ?_⟩
  · obtain ⟨x, hx, he⟩ := h.there o ho
    have hne : o.at_ ≠ a := fun hh => by rw [hh, hn] at hx; cases hx
    have hx' : findOb L' o.at_ = some x := by rw [hf, if_neg hne]; exact hx
    have h1 := lies_two hl hx' hnew hne
    have h2 : x.next = o.at_ + 1 + o.fs.length := by unfold Ob.next; rw [(find_mem hx).2, he]
    have h3 := (h.size o ho).1
    omega
  · have h1 := lies_mem words 1 L' hl _ (find_mem hnew).1
    have h2 : (newOb a kk nn).at_ = a := rfl
    omega
theorem Good.freed {L P : List Ob} {words : Nat} (h : Good L P) (hl : Lies words 1 L) {j : Nat} {o : Ob} (ho : P[j]? = some o) : Good (dropOb L o.at_) (P.take j ++ P.drop (j + 1)) := by
  have hm := List.mem_of_getElem? ho
  obtain ⟨x, hx, _⟩ := h.there o hm
  have hd := (drop_facts hl (isIn_of hx)).2
  have hsp : P = P.take j ++ o :: P.drop (j + 1) := by
    obtain ⟨hi, he⟩ := List.getElem?_eq_some_iff.1 ho
    rw [← he, ← List.drop_eq_getElem_cons hi, List.take_append_drop]
  have hnd := h.nd
  rw [hsp, List.map_append, List.map_cons, List.nodup_append, List.nodup_cons] at hnd
  have hmem : ∀ p ∈ P.take j ++ P.drop (j + 1), p ∈ P ∧ p.at_ ≠ o.at_ := fun p hp => by
    rcases List.mem_append.1 hp with hp | hp
    · exact ⟨List.mem_of_mem_take hp, hnd.2.2 _ (List.mem_map.2 ⟨p, hp, rfl⟩) _ (by simp)⟩
    · exact ⟨List.mem_of_mem_drop hp, fun he => hnd.2.1.1 (List.mem_map.2 ⟨p, hp, he⟩)⟩
  refine ⟨fun p hp => h.size p (hmem p hp).1, fun p hp => ?_, ?_⟩
  · obtain ⟨y, hy, he⟩ := h.there p (hmem p hp).1
    exact ⟨y, by rw [hd, if_neg (hmem p hp).2]; exact hy, he⟩
  · rw [List.map_append, List.nodup_append]
    exact ⟨hnd.1, hnd.2.1.2, fun c hc d hd => hnd.2.2 c hc d (List.mem_cons_of_mem _ hd)⟩
theorem Good.set {L P : List Ob} (h : Good L P) {j f x : Nat} {o : Ob} (ho : P[j]? = some o) : Good (setOb L o.at_ f x) (P.set j (o.put f x)) := by
  have hm := List.mem_of_getElem? ho
  obtain ⟨y, hy, hye⟩ := h.there o hm
  have hj := (List.getElem?_eq_some_iff.1 ho).1
  have hmap : (P.set j (o.put f x)).map Ob.at_ = P.map Ob.at_ := by
    rw [List.map_set]
    refine List.ext_getElem? fun i => ?_
    rw [List.getElem?_set]
    split
    · rename_i hij
      subst hij
      rw [List.length_map, if_pos hj, List.getElem?_map, ho]; rfl
    · rfl
  have hnd := h.nd
  refine ⟨fun p hp => ?_, fun p hp => ?_, by rw [hmap]; exact h.nd⟩
  · rcases List.mem_or_eq_of_mem_set hp with hp | rfl
    · exact h.size p hp
    · have := h.size o hm
      simpa [Ob.put] using this
  · obtain ⟨i, hi, he⟩ := List.getElem_of_mem hp
    rw [List.length_set] at hi
    have hpi : (P.set j (o.put f x))[i]? = some p := by rw [List.getElem?_eq_getElem (by rw [List.length_set]; exact hi), he]
    rw [List.getElem?_set] at hpi
    split at hpi
    · rename_i hij
      subst hij
      obtain rfl := Option.some.inj hpi
      refine ⟨y.put f x, ?_, by simp [Ob.put, hye]⟩
      show findOb (setOb L o.at_ f x) o.at_ = _
      rw [find_set, if_pos rfl, hy]; rfl
    · rename_i hij
      have hpm := List.mem_of_getElem? hpi
      obtain ⟨z, hz, hze⟩ := h.there p hpm
      refine ⟨z, ?_, hze⟩
      rw [find_set, if_neg (fun he2 => hij ?_)]
      · exact hz
      · have h1 : (P.map Ob.at_)[i]? = some p.at_ := by rw [List.getElem?_map, hpi]; rfl
        have h2 : (P.map Ob.at_)[j]? = some o.at_ := by rw [List.getElem?_map, ho]; rfl
        exact (List.getElem?_inj (by rw [List.length_map]; exact hj) hnd).1 (h2.trans (by rw [h1, he2]))
/-- No two of the rows of words lie in one block. -/
def Sep (P : List (Ob × Value)) : Prop := P.Pairwise fun p q => ∀ b, p.2.ownBlock = some b → q.2.ownBlock ≠ some b
/-- The row of what was laid: v holds it, among the blocks K. -/
structure HeldIn (w : World) (K : Nat → Prop) (v : Value) (P : List (Ob × Value)) : Prop where
  row : RowIn w K 45 3 v P.length (obCells P)
  flds : FieldsIn w K P
  sep : Sep P
theorem HeldIn.keep {w w' : World} {K : Nat → Prop} {v : Value} {P : List (Ob × Value)} (h : HeldIn w K v P) (hk : ∀ b, b < w.heap.size → K b → w'.heap[b]? = w.heap[b]?) : HeldIn w' K v P := ⟨h.row.keep hk, fun p hp => (h.flds p hp).keep hk, h.sep⟩
theorem HeldIn.mono {w : World} {K J : Nat → Prop} {v : Value} {P : List (Ob × Value)} (h : HeldIn w K v P) (hJ : ∀ b, K b → J b) : HeldIn w J v P := ⟨h.row.mono hJ, fun p hp => (h.flds p hp).mono hJ, h.sep⟩
theorem HeldIn.bound {w : World} {K : Nat → Prop} {v : Value} {P : List (Ob × Value)} (h : HeldIn w K v P) : HeldIn w (fun b => K b ∧ b < w.heap.size) v P := ⟨h.row.bound, fun p hp => (h.flds p hp).bound, h.sep⟩
/-- The heap and that row, apart from each other and from the blocks F, which stand. -/
def Apt (F : Nat → Prop) (w : World) (q m : Nat) (L : List Ob) (v : Value) (P : List (Ob × Value)) : Prop :=
  ∃ S K : Nat → Prop, HAt w q S m L ∧ HeldIn w K v P ∧ (∀ b, S b → K b → False) ∧ (∀ b, S b → ¬ F b) ∧ (∀ b, K b → ¬ F b) ∧ (∀ b, S b → b < w.heap.size) ∧ (∀ b, K b → b < w.heap.size) ∧ ∀ b, F b → b < w.heap.size
theorem Apt.below {F : Nat → Prop} {w w' : World} {q m : Nat} {L : List Ob} {v : Value} {P : List (Ob × Value)} (h : Apt F w q m L v P) (hb : Below w.heap.size w w') : Apt F w' q m L v P := by
  obtain ⟨S, K, h1, h2, h3, h4, h5, h6, h7, h8⟩ := h
  exact ⟨S, K, h1.below hb, h2.keep fun b hl _ => hb.block b hl, h3, h4, h5, fun b hx => Nat.lt_of_lt_of_le (h6 b hx) hb.size, fun b hx => Nat.lt_of_lt_of_le (h7 b hx) hb.size, fun b hx => Nat.lt_of_lt_of_le (h8 b hx) hb.size⟩
theorem Apt.more {F G : Nat → Prop} {w w' : World} {q m : Nat} {L : List Ob} {v : Value} {P : List (Ob × Value)} (h : Apt F w q m L v P) (hb : Below w.heap.size w w') (hG : ∀ b, G b → F b ∨ (w.heap.size ≤ b ∧ b < w'.heap.size)) : Apt G w' q m L v P := by
  obtain ⟨S, K, h1, h2, h3, h4, h5, h6, h7, h8⟩ := h
  refine ⟨S, K, h1.below hb, h2.keep fun b hl _ => hb.block b hl, h3, fun b hS hg => ?_, fun b hK hg => ?_, fun b hx => Nat.lt_of_lt_of_le (h6 b hx) hb.size, fun b hx => Nat.lt_of_lt_of_le (h7 b hx) hb.size, fun b hg => ?_⟩
  · rcases hG b hg with hF | ⟨hz, _⟩
    · exact h4 b hS hF
    · have := h6 b hS; omega
  · rcases hG b hg with hF | ⟨hz, _⟩
    · exact h5 b hK hF
    · have := h7 b hK; omega
  · rcases hG b hg with hF | ⟨_, hz⟩
    · exact Nat.lt_of_lt_of_le (h8 b hF) hb.size
    · exact hz
theorem Apt.less {F G : Nat → Prop} {w : World} {q m : Nat} {L : List Ob} {v : Value} {P : List (Ob × Value)} (h : Apt F w q m L v P) (hG : ∀ b, G b → F b) : Apt G w q m L v P := by
  obtain ⟨S, K, h1, h2, h3, h4, h5, h6, h7, h8⟩ := h
  exact ⟨S, K, h1, h2, h3, fun b hS hg => h4 b hS (hG b hg), fun b hK hg => h5 b hK (hG b hg), h6, h7, fun b hg => h8 b (hG b hg)⟩
def AptStep (F : Nat → Prop) (q m : Nat) (L : List Ob) (v : Value) (P : List (Ob × Value)) (w w' : World) : Prop := Apt F w' q m L v P ∧ Stands F w w'
theorem apt_H {F : Nat → Prop} {w w' : World} {q m : Nat} {S K : Nat → Prop} {L' : List Ob} {v : Value} {P : List (Ob × Value)} (h2 : HeldIn w K v P) (h3 : ∀ b, S b → K b → False) (h4 : ∀ b, S b → ¬ F b) (h5 : ∀ b, K b → ¬ F b) (h7 : ∀ b, K b → b < w.heap.size) (h8 : ∀ b, F b → b < w.heap.size) (hs : HStep q S m L' w w') : AptStep F q m L' v P w w' := by
  have hz := hs.2.size
  refine ⟨⟨_, K, hs.1.bound, h2.keep fun b hl hK => hs.2.block b hl fun hS => h3 b hS hK, ?_, ?_, h5, fun b hS => hS.2, fun b hK => Nat.lt_of_lt_of_le (h7 b hK) hz, fun b hF => Nat.lt_of_lt_of_le (h8 b hF) hz⟩, hs.2.mono h4⟩
  · rintro b ⟨hS | hb, _⟩ hK
    · exact h3 b hS hK
    · have := h7 b hK; omega
  · rintro b ⟨hS | hb, _⟩ hF
    · exact h4 b hS hF
    · have := h8 b hF; omega
def ATwo (F : Nat → Prop) (q m : Nat) (a e : Int) (L : List Ob) (v : Value) (P : List (Ob × Value)) (w : World) (x : Ending) (w' : World) : Prop := x = .returned (.tuple #[.int .i64 a, .int .i64 e]) ∧ AptStep F q m L v P w w'
def AOne (F : Nat → Prop) (q m : Nat) (e : Int) (L : List Ob) (v : Value) (P : List (Ob × Value)) (w : World) (x : Ending) (w' : World) : Prop := x = .returned (.int .i64 e) ∧ AptStep F q m L v P w w'
section
variable (F : Nat → Prop) (q m : Nat) (L : List Ob) (v : Value) (P : List (Ob × Value)) (w : World) (h : Apt F w q m L v P)
include h
theorem a_Alloc (k n : Int) : Calls Tryd.prog 18 #[.pointer (some ⟨q, 0, none⟩), .int .i64 k, .int .i64 n] w (ATwo F q m (hAlloc m L k n).1 (hAlloc m L k n).2.1 (hAlloc m L k n).2.2 v P w) := by
  obtain ⟨S, K, h1, h2, h3, h4, h5, h6, h7, h8⟩ := h
  exact (g_Alloc q S m L w h1 k n).mono fun e w' ⟨he, hs⟩ => ⟨he, apt_H h2 h3 h4 h5 h7 h8 hs⟩
theorem a_Free (a : Int) : Calls Tryd.prog 19 #[.pointer (some ⟨q, 0, none⟩), .int .i64 a] w (AOne F q m (hFree L a).1 (hFree L a).2 v P w) := by
  obtain ⟨S, K, h1, h2, h3, h4, h5, h6, h7, h8⟩ := h
  exact (g_Free q S m L w h1 a).mono fun e w' ⟨he, hs⟩ => ⟨he, apt_H h2 h3 h4 h5 h7 h8 hs⟩
theorem a_Set (a i : Int) (x : Nat) (hx : x < 18446744073709551616) : Calls Tryd.prog 21 #[.pointer (some ⟨q, 0, none⟩), .int .i64 a, .int .i64 i, .int .u64 (x : Int)] w (AOne F q m (hSet L a i x).1 (hSet L a i x).2 v P w) := by
  obtain ⟨S, K, h1, h2, h3, h4, h5, h6, h7, h8⟩ := h
  exact (g_Set q S m L w h1 a i x hx).mono fun e w' ⟨he, hs⟩ => ⟨he, apt_H h2 h3 h4 h5 h7 h8 hs⟩
theorem a_Get (a i : Int) : Calls Tryd.prog 23 #[.pointer (some ⟨q, 0, none⟩), .int .i64 a, .int .i64 i] w (TwoSame (.int .u64 ((hGet L a i).1 : Nat)) (hGet L a i).2 w) := by
  obtain ⟨S, K, h1, _⟩ := h
  exact g_Get q S m L w h1 a i
end
theorem Apt.lies {F : Nat → Prop} {w : World} {q m : Nat} {L : List Ob} {v : Value} {P : List (Ob × Value)} (h : Apt F w q m L v P) : Lies m 1 L := by
  obtain ⟨S, K, h1, _⟩ := h
  exact h1.lies
end Go.Proofs.YtbmkjlpjgkfjcaaDoor
