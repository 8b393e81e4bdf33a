/-
  A heap in memory holds a list of objects: what its words, marks and free runs are then, and what each change of them says of the objects.
-/
import Derived.Test.YtdkbgdjkdalalaaGreatDoorHAbs
import Derived.Test.YtdkbgdjkdalalaaGreatDoorHFree
import Derived.Test.YtdkbgdjkdalalaaGreatDoorHCopy
namespace Go.Proofs.YtdkbgdjkdalalaaGreatDoor
open Go.RowKit
def findOb : List Ob → Nat → Option Ob
  | [], _ => none
  | o :: L, a => if o.at_ = a then some o else findOb L a
def dropOb : List Ob → Nat → List Ob
  | [], _ => []
  | o :: L, a => if o.at_ = a then L else o :: dropOb L a
def Ob.put (o : Ob) (i x : Nat) : Ob := ⟨o.at_, o.kind, o.fs.set i x⟩
def setOb : List Ob → Nat → Nat → Nat → List Ob
  | [], _, _, _ => []
  | o :: L, a, i, x => if o.at_ = a then o.put i x :: L else o :: setOb L a i x
/-- The lowest address of an object at or above a; 0: there is none. -/
def nextOb : List Ob → Nat → Nat
  | [], _ => 0
  | o :: L, a => if a ≤ o.at_ then o.at_ else nextOb L a
theorem find_some {L : List Ob} {a : Nat} {o : Ob} (h : findOb L a = some o) : o.at_ = a ∧ ∃ A B, L = A ++ o :: B ∧ dropOb L a = A ++ B ∧ ∀ i x, setOb L a i x = A ++ o.put i x :: B := by
  induction L with
  | nil => cases h
  | cons x L ih =>
    unfold findOb at h
    split at h
    · rename_i hx
      injection h with h
      subst h
      refine ⟨hx, [], L, rfl, ?_, fun i y => ?_⟩
      · unfold dropOb; rw [if_pos hx]; rfl
      · unfold setOb; rw [if_pos hx]; rfl
    · rename_i hx
      obtain ⟨h1, A, B, h2, h3, h4⟩ := ih h
      refine ⟨h1, x :: A, B, by rw [h2]; rfl, ?_, fun i y => ?_⟩
      · unfold dropOb; rw [if_neg hx, h3]; rfl
      · unfold setOb; rw [if_neg hx, h4]; rfl
theorem find_none {L : List Ob} {a : Nat} (h : findOb L a = none) : ∀ o ∈ L, o.at_ ≠ a := by
  induction L with
  | nil => simp
  | cons x L ih =>
    unfold findOb at h
    split at h
    · cases h
    · rename_i hx
      intro o ho
      rcases List.mem_cons.1 ho with rfl | ho
      · exact hx
      · exact ih h o ho
structure Rep (words : Nat) (L : List Ob) (cs ms : List Nat) (rs : List (Nat × Nat)) : Prop where
  two : 2 ≤ words
  most : words ≤ 65536
  len : cs.length = words
  mlen : ms.length = (words + 63) / 64
  small : Small ms
  lies : Lies words 1 L
  kinds : ∀ o ∈ L, 1 ≤ o.kind ∧ o.kind ≤ 6 ∧ o.fs.length ≤ 4096
  vals : ∀ o ∈ L, ∀ x ∈ o.fs, x < 18446744073709551616
  marks : ∀ d, Marked ms d = true ↔ ∃ o ∈ L, o.at_ = d
  head : ∀ o ∈ L, cs.getD o.at_ 0 = o.fs.length * 8 + o.kind
  body : ∀ o ∈ L, ∀ j, j < o.fs.length → cs.getD (o.at_ + 1 + j) 0 = o.fs.getD j 0
  runs : rs = freeFrom words 1 L
theorem free_count (words p : Nat) (L : List Ob) (h : Lies words p L) : (freeFrom words p L).length * 2 ≤ words - p + 1 := by
  induction L generalizing p with
  | nil =>
    unfold freeFrom one
    split <;> simp <;> omega
  | cons o L ih =>
    have h1 := ih o.next h.2
    have h2 := lies_le _ _ _ h.2
    have h3 := h.1
    have hnx : o.next = o.at_ + 1 + o.fs.length := rfl
    unfold freeFrom one
    rw [List.length_append]
    split
    · simp only [List.length_singleton]; omega
    · simp only [List.length_nil]; omega
theorem free_sorted (words p : Nat) (L : List Ob) (h : Lies words p L) : (freeFrom words p L).Pairwise fun r s => r.1 < s.1 := by
  induction L generalizing p with
  | nil =>
    unfold freeFrom one
    split <;> simp
  | cons o L ih =>
    unfold freeFrom
    rw [List.pairwise_append]
    refine ⟨by unfold one; split <;> simp, ih o.next h.2, fun r hr s hs => ?_⟩
    obtain ⟨rfl, hn⟩ := one_mem hr
    have h1 := freeFrom_ge words o.next L h.2 s hs
    have hnx : o.next = o.at_ + 1 + o.fs.length := rfl
    have := h.1
    simp only
    omega
theorem free_rising (words p : Nat) (L : List Ob) (h : Lies words p L) : Rising (freeFrom words p L) := by
  intro i j hij hj
  have h1 := List.pairwise_iff_getElem.1 (free_sorted words p L h) i j (by omega) hj hij
  unfold bgn
  rw [List.getD_eq_getElem?_getD, List.getD_eq_getElem?_getD, List.getElem?_eq_getElem (by omega), List.getElem?_eq_getElem hj]
  exact h1
theorem free_within (words p : Nat) (L : List Ob) (h : Lies words p L) (hw : words ≤ 65536) : Within (freeFrom words p L) := by
  intro i
  by_cases hi : i < (freeFrom words p L).length
  · have h1 := freeFrom_ge words p L h _ (List.getElem_mem hi)
    rw [List.getD_eq_getElem?_getD, List.getElem?_eq_getElem hi]
    simp only [Option.getD_some]
    omega
  · rw [List.getD_eq_getElem?_getD, List.getElem?_eq_none (by omega)]
    simp
/-- The cells of objects, headers among them. -/
def usedBy : List Ob → Nat
  | [] => 0
  | o :: L => o.fs.length + 1 + usedBy L
theorem sum_one (p n : Nat) : sumR (one p n) = n := by
  unfold one
  split
  · rfl
  · simp [sumR]; omega
theorem free_sum (words p : Nat) (L : List Ob) (h : Lies words p L) : sumR (freeFrom words p L) + usedBy L + p = words := by
  induction L generalizing p with
  | nil =>
    have : p ≤ words := h
    unfold freeFrom usedBy
    rw [sum_one]; omega
  | cons o L ih =>
    have h1 := ih o.next h.2
    have hnx : o.next = o.at_ + 1 + o.fs.length := rfl
    have := h.1
    unfold freeFrom usedBy
    rw [sumR_append, sum_one]; omega
section
variable {words : Nat} {L : List Ob} {cs ms : List Nat} {rs : List (Nat × Nat)}
theorem Rep.lens (h : Rep words L cs ms rs) : ms.length = (cs.length + 63) / 64 := by rw [h.len, h.mlen]
theorem Rep.cmost (h : Rep words L cs ms rs) : cs.length ≤ 65536 := by rw [h.len]; exact h.most
theorem Rep.rcount (h : Rep words L cs ms rs) : rs.length ≤ 64000 := by
  have := free_count words 1 L h.lies
  have := h.most
  rw [h.runs]; omega
theorem Rep.rising (h : Rep words L cs ms rs) : Rising rs := by rw [h.runs]; exact free_rising _ _ _ h.lies
theorem Rep.within (h : Rep words L cs ms rs) : Within rs := by rw [h.runs]; exact free_within _ _ _ h.lies h.most
theorem Rep.rsum (h : Rep words L cs ms rs) : sumR rs ≤ 65536 := by
  have := free_sum words 1 L h.lies
  have := h.most
  rw [h.runs]; omega
theorem Rep.not_holds (h : Rep words L cs ms rs) (a : Int) (hn : a < 0 ∨ findOb L a.toNat = none) : ¬ Holds cs ms a := by
  rintro ⟨h1, h2, h3⟩
  rcases hn with hn | hn
  · omega
  · obtain ⟨o, ho, he⟩ := (h.marks _).1 h3
    exact find_none hn o ho he
theorem Rep.at_ (h : Rep words L cs ms rs) {a : Nat} {o : Ob} (hf : findOb L a = some o) : o ∈ L ∧ o.at_ = a ∧ 0 < a ∧ a < cs.length ∧ Marked ms a = true ∧ cs.getD a 0 / 8 = o.fs.length ∧ cs.getD a 0 % 8 = o.kind ∧ a + 1 + o.fs.length ≤ cs.length ∧ cs.getD a 0 < 18446744073709551616 := by
  obtain ⟨h1, A, B, h2, _, _⟩ := find_some hf
  have hm : o ∈ L := by rw [h2]; simp
  have h3 := lies_mem _ _ _ h.lies o hm
  have h4 := h.head o hm
  have h5 := h.kinds o hm
  have h6 := h.len
  have hnx : o.next = o.at_ + 1 + o.fs.length := rfl
  rw [h1] at h4 h3 hnx
  refine ⟨hm, h1, by omega, by omega, (h.marks a).2 ⟨o, hm, h1⟩, by omega, by omega, by omega, by omega⟩
/-- No other object lies over one. -/
theorem lies_apart (words p : Nat) (A B : List Ob) (o x : Ob) (h : Lies words p (A ++ o :: B)) (hx : x ∈ A ++ B) : x.next ≤ o.at_ ∨ o.next ≤ x.at_ := by
  have h1 := lies_append words p A (o :: B) h
  rcases List.mem_append.1 hx with hx | hx
  · have := lies_mem _ _ _ (lies_head words p A (o :: B) h) x hx
    have := h1.2.1
    exact .inl (by omega)
  · exact .inr (lies_mem _ _ _ h1.2.2 x hx).1
theorem lies_drop (words p : Nat) (A B : List Ob) (o : Ob) (h : Lies words p (A ++ o :: B)) : Lies words p (A ++ B) := by
  have h1 := lies_append words p A (o :: B) h
  have h2 := h1.2.1
  have hnx : o.next = o.at_ + 1 + o.fs.length := rfl
  exact lies_join words p A B ⟨_, lies_head words p A (o :: B) h, rfl⟩ (lies_lower words o.next _ B h1.2.2 (by omega))
theorem Rep.free (h : Rep words L cs ms rs) {a : Nat} {o : Ob} (hf : findOb L a = some o) : Rep words (dropOb L a) cs (removeMark ms a) (giveRuns rs a (o.fs.length + 1)) := by
  have hat := h.at_ hf
  obtain ⟨h1, A, B, h2, h3, _⟩ := find_some hf
  have hl := h.lies
  rw [h2] at hl
  have hsub : ∀ x ∈ A ++ B, x ∈ L := fun x hx => by
    rw [h2]
    rcases List.mem_append.1 hx with hx | hx
    · exact List.mem_append.2 (.inl hx)
    · exact List.mem_append.2 (.inr (List.mem_cons_of_mem _ hx))
  rw [h3]
  have hr : giveRuns rs a (o.fs.length + 1) = freeFrom words 1 (A ++ B) := by
    rw [h.runs, h2, ← h1]
    exact give_free words 1 A B o hl
  have hml := h.mlen
  have hwm := h.most
  have hlen := h.len
  refine ⟨h.two, h.most, h.len, by rw [removeMark_len]; exact h.mlen, h.small.remove a, lies_drop _ _ _ _ _ hl, fun x hx => h.kinds x (hsub x hx), fun x hx => h.vals x (hsub x hx), fun d => ?_, fun x hx => h.head x (hsub x hx), fun x hx => h.body x (hsub x hx), hr⟩
  rw [marked_remove ms a d (by omega)]
  constructor
  · intro hd
    simp only [Bool.and_eq_true, decide_eq_true_eq] at hd
    obtain ⟨x, hx, he⟩ := (h.marks d).1 hd.2
    rw [h2] at hx
    rcases List.mem_append.1 hx with hx | hx
    · exact ⟨x, List.mem_append.2 (.inl hx), he⟩
    · rcases List.mem_cons.1 hx with rfl | hx
      · exact absurd (he.symm.trans h1) hd.1
      · exact ⟨x, List.mem_append.2 (.inr hx), he⟩
  · rintro ⟨x, hx, he⟩
    simp only [Bool.and_eq_true, decide_eq_true_eq]
    refine ⟨?_, (h.marks d).2 ⟨x, hsub x hx, he⟩⟩
    rintro rfl
    have hnx : o.next = o.at_ + 1 + o.fs.length := rfl
    have hnx2 : x.next = x.at_ + 1 + x.fs.length := rfl
    rcases lies_apart words 1 A B o x hl hx with h4 | h4 <;> omega
theorem Rep.set_ (h : Rep words L cs ms rs) {a i x : Nat} {o : Ob} (hf : findOb L a = some o) (hi : i < o.fs.length) (hx : x < 18446744073709551616) : Rep words (setOb L a i x) (cs.set (a + 1 + i) x) ms rs := by
  have hat := h.at_ hf
  obtain ⟨h1, A, B, h2, _, h4⟩ := find_some hf
  have hl := h.lies
  rw [h2] at hl
  rw [h4]
  have hnx : o.next = o.at_ + 1 + o.fs.length := rfl
  have hpn : (o.put i x).next = o.next := by unfold Ob.next Ob.put; simp
  have hsl : ∀ q, Lies words q (o.put i x :: B) ↔ Lies words q (o :: B) := fun q => by
    constructor
    · rintro ⟨u, v⟩; exact ⟨u, by rw [hpn] at v; exact v⟩
    · rintro ⟨u, v⟩; exact ⟨u, by rw [hpn]; exact v⟩
  have hsf : ∀ q, freeFrom words q (o.put i x :: B) = freeFrom words q (o :: B) := fun q => by simp only [freeFrom]; rw [hpn]; rfl
  have hl2 : Lies words 1 (A ++ o.put i x :: B) := by
    have h5 := lies_append words 1 A (o :: B) hl
    exact lies_join words 1 A _ ⟨_, lies_head words 1 A (o :: B) hl, rfl⟩ ((hsl _).2 h5.2)
  have hmem : ∀ y ∈ A ++ o.put i x :: B, y = o.put i x ∨ y ∈ A ++ B := fun y hy => by
    rcases List.mem_append.1 hy with hy | hy
    · exact .inr (List.mem_append.2 (.inl hy))
    · rcases List.mem_cons.1 hy with hy | hy
      · exact .inl hy
      · exact .inr (List.mem_append.2 (.inr hy))
  have hsub : ∀ y ∈ A ++ B, y ∈ L := fun y hy => by
    rw [h2]
    rcases List.mem_append.1 hy with hy | hy
    · exact List.mem_append.2 (.inl hy)
    · exact List.mem_append.2 (.inr (List.mem_cons_of_mem _ hy))
  have hlen := h.len
  refine ⟨h.two, h.most, by rw [List.length_set]; exact h.len, h.mlen, h.small, hl2, fun y hy => ?_, fun y hy => ?_, fun d => ?_, fun y hy => ?_, fun y hy j hj => ?_, ?_⟩
  · rcases hmem y hy with rfl | hy
    · have := h.kinds o hat.1
      unfold Ob.put; simpa using this
    · exact h.kinds y (hsub y hy)
  · rcases hmem y hy with rfl | hy
    · intro z hz
      rcases List.mem_or_eq_of_mem_set hz with hz | rfl
      · exact h.vals o hat.1 z hz
      · exact hx
    · exact h.vals y (hsub y hy)
  · rw [h.marks d, h2]
    constructor
    · rintro ⟨y, hy, he⟩
      rcases List.mem_append.1 hy with hy | hy
      · exact ⟨y, List.mem_append.2 (.inl hy), he⟩
      · rcases List.mem_cons.1 hy with rfl | hy
        · exact ⟨y.put i x, by simp, he⟩
        · exact ⟨y, List.mem_append.2 (.inr (List.mem_cons_of_mem _ hy)), he⟩
    · rintro ⟨y, hy, he⟩
      rcases hmem y hy with rfl | hy
      · exact ⟨o, by simp, he⟩
      · have := hsub y hy
        rw [h2] at this
        exact ⟨y, this, he⟩
  · rcases hmem y hy with rfl | hy
    · have h5 := h.head o hat.1
      rw [getD_set, if_neg (fun e => by have := e.1; simp [Ob.put] at this; omega)]
      unfold Ob.put; simpa using h5
    · have h5 := lies_apart words 1 A B o y hl hy
      have hny : y.next = y.at_ + 1 + y.fs.length := rfl
      rw [getD_set, if_neg (fun e => by omega)]
      exact h.head y (hsub y hy)
  · rcases hmem y hy with rfl | hy
    · have hj2 : j < o.fs.length := by simpa [Ob.put] using hj
      have h5 := h.body o hat.1 j hj2
      show (cs.set (a + 1 + i) x).getD (o.at_ + 1 + j) 0 = (o.fs.set i x).getD j 0
      rw [getD_set, getD_set, h1]
      by_cases hij : i = j
      · rw [if_pos ⟨by omega, by omega⟩, if_pos ⟨hij, hi⟩]
      · rw [if_neg (fun e => by omega), if_neg (fun e => hij e.1), ← h1]
        exact h5
    · have h5 := lies_apart words 1 A B o y hl hy
      have hny : y.next = y.at_ + 1 + y.fs.length := rfl
      rw [getD_set, if_neg (fun e => by omega)]
      exact h.body y (hsub y hy) j hj
  · rw [h.runs, h2, free_append, free_append, hsf]
theorem Rep.alloc (h : Rep words L cs ms rs) {k n a : Nat} {L' : List Ob} (hk : 1 ≤ k ∧ k ≤ 6) (hn : n ≤ 4096) (ha : allocAt words k n 1 L = some (a, L')) :
    takeAddr rs (n + 1) = a ∧ 0 < a ∧ a + 1 + n ≤ cs.length ∧ Rep words L' (onesTo (cs.set a (n * 8 + k)) (a + 1) n) (addMark ms a) (takeRuns rs (n + 1)) := by
  obtain ⟨h1, h2, h3, A, B, h4, h5, h6⟩ := alloc_some words k n 1 a L L' h.lies ha
  have hnew : (newOb a k n).next = a + 1 + n := by unfold Ob.next newOb; simp
  have hat : (newOb a k n).at_ = a := rfl
  have hfl : (newOb a k n).fs.length = n := by simp [newOb]
  have hm := lies_mem _ _ _ h3 (newOb a k n) (by rw [h5]; simp)
  rw [hnew, hat] at hm
  have hlen := h.len
  have hml := h.mlen
  have hl3 := h3
  rw [h5] at hl3
  have hfit : a + 1 + n ≤ cs.length := by omega
  have hmem : ∀ y ∈ L', y = newOb a k n ∨ y ∈ A ++ B := fun y hy => by
    rw [h5] at hy
    rcases List.mem_append.1 hy with hy | hy
    · exact .inr (List.mem_append.2 (.inl hy))
    · rcases List.mem_cons.1 hy with hy | hy
      · exact .inl hy
      · exact .inr (List.mem_append.2 (.inr hy))
  have hsub : ∀ y ∈ A ++ B, y ∈ L := fun y hy => by rw [h4]; exact hy
  have hcell : ∀ i, i < a ∨ a + 1 + n ≤ i → (onesTo (cs.set a (n * 8 + k)) (a + 1) n).getD i 0 = cs.getD i 0 := fun i hi => by
    rw [onesTo_at _ _ _ _ (by rw [List.length_set]; omega), if_neg (by omega), getD_set, if_neg (fun e => by omega)]
  refine ⟨by rw [h.runs]; exact h1, by omega, hfit, ⟨h.two, h.most, by rw [onesTo_len, List.length_set]; exact hlen, by rw [addMark_len]; exact hml, h.small.add a, h3, fun y hy => ?_, fun y hy => ?_, fun d => ?_, fun y hy => ?_, fun y hy j hj => ?_, by rw [h.runs]; exact h2⟩⟩
  · rcases hmem y hy with rfl | hy
    · rw [hfl]; exact ⟨hk.1, hk.2, hn⟩
    · exact h.kinds y (hsub y hy)
  · rcases hmem y hy with rfl | hy
    · intro z hz
      have := List.eq_of_mem_replicate hz
      omega
    · exact h.vals y (hsub y hy)
  · rw [marked_add ms a d (by omega), Bool.or_eq_true, decide_eq_true_eq, h.marks d]
    constructor
    · rintro (rfl | ⟨y, hy, he⟩)
      · exact ⟨newOb d k n, by rw [h5]; simp, rfl⟩
      · refine ⟨y, ?_, he⟩
        rw [h4] at hy
        rw [h5]
        rcases List.mem_append.1 hy with hy | hy
        · exact List.mem_append.2 (.inl hy)
        · exact List.mem_append.2 (.inr (List.mem_cons_of_mem _ hy))
    · rintro ⟨y, hy, he⟩
      rcases hmem y hy with rfl | hy
      · exact .inl he.symm
      · exact .inr ⟨y, hsub y hy, he⟩
  · rcases hmem y hy with rfl | hy
    · rw [hfl, hat, onesTo_at _ _ _ _ (by rw [List.length_set]; omega), if_neg (by omega), getD_set, if_pos ⟨rfl, by omega⟩]
      rfl
    · have h7 := lies_apart words 1 A B (newOb a k n) y hl3 hy
      rw [hnew, hat] at h7
      have hny : y.next = y.at_ + 1 + y.fs.length := rfl
      rw [hcell _ (by omega)]
      exact h.head y (hsub y hy)
  · rcases hmem y hy with rfl | hy
    · rw [hfl] at hj
      rw [hat, onesTo_at _ _ _ _ (by rw [List.length_set]; omega), if_pos (by omega)]
      show 1 = (List.replicate n 1).getD j 0
      rw [List.getD_eq_getElem?_getD, List.getElem?_replicate, if_pos hj]
      rfl
    · have h7 := lies_apart words 1 A B (newOb a k n) y hl3 hy
      rw [hnew, hat] at h7
      have hny : y.next = y.at_ + 1 + y.fs.length := rfl
      rw [hcell _ (by omega)]
      exact h.body y (hsub y hy) j hj
theorem Rep.full (h : Rep words L cs ms rs) {k n : Nat} (ha : allocAt words k n 1 L = none) : takeAddr rs (n + 1) = 0 ∧ takeRuns rs (n + 1) = rs := by
  rw [h.runs]
  exact alloc_none words k n 1 L ha
theorem Rep.next (h : Rep words L cs ms rs) (c r : Nat) (hn : IsNext ms c r) : r = nextOb L c := by
  have hl := h.lies
  have hmk := h.marks
  rcases hn with ⟨h1, h2, h3, h4⟩ | ⟨h1, h4⟩
  · have key : ∀ p (M : List Ob), Lies words p M → (∀ o ∈ M, o ∈ L) → (∃ o ∈ M, o.at_ = r) → nextOb M c = r := by
      intro p M
      induction M generalizing p with
      | nil => rintro _ _ ⟨o, ho, _⟩; simp at ho
      | cons o M ih =>
        intro hM hs hr
        unfold nextOb
        by_cases hc : c ≤ o.at_
        · rw [if_pos hc]
          obtain ⟨x, hx, he⟩ := hr
          rcases List.mem_cons.1 hx with rfl | hx
          · exact he
          · have h5 := (lies_mem _ _ _ hM.2 x hx).1
            have hnx : o.next = o.at_ + 1 + o.fs.length := rfl
            have h6 := h4 o.at_ hc (by omega)
            have h7 := (hmk o.at_).2 ⟨o, hs o (by simp), rfl⟩
            rw [h6] at h7
            cases h7
        · rw [if_neg hc]
          refine ih o.next hM.2 (fun x hx => hs x (by simp [hx])) ?_
          obtain ⟨x, hx, he⟩ := hr
          rcases List.mem_cons.1 hx with rfl | hx
          · omega
          · exact ⟨x, hx, he⟩
    exact (key 1 L hl (fun _ h => h) ((hmk r).1 h3)).symm
  · subst h1
    have key : ∀ (M : List Ob), (∀ o ∈ M, o ∈ L) → nextOb M c = 0 := by
      intro M
      induction M with
      | nil => intro _; rfl
      | cons o M ih =>
        intro hs
        unfold nextOb
        by_cases hc : c ≤ o.at_
        · have h6 := h4 o.at_ hc
          have h7 := (hmk o.at_).2 ⟨o, hs o (by simp), rfl⟩
          rw [h6] at h7
          cases h7
        · rw [if_neg hc]
          exact ih (fun x hx => hs x (by simp [hx]))
    exact (key L (fun _ h => h)).symm
end
theorem marked_zeros (m d : Nat) : Marked (List.replicate m 0) d = false := by
  unfold Marked
  have : (List.replicate m 0).getD (d / 64) 0 = 0 := by
    rw [List.getD_eq_getElem?_getD, List.getElem?_replicate]
    split <;> rfl
  rw [this]; simp
theorem Rep.new (n : Nat) (h2 : 2 ≤ n) (hn : n ≤ 65536) : Rep n [] (List.replicate n 0) (List.replicate ((n + 63) / 64) 0) [(1, n - 1)] := by
  refine ⟨h2, hn, by simp, by simp, fun i => ?_, show 1 ≤ n by omega, by simp, by simp, fun d => ?_, by simp, by simp, ?_⟩
  · rw [List.getD_eq_getElem?_getD, List.getElem?_replicate]
    split <;> decide
  · rw [marked_zeros]; simp
  · unfold freeFrom one; rw [if_pos (by omega)]
end Go.Proofs.YtdkbgdjkdalalaaGreatDoor
