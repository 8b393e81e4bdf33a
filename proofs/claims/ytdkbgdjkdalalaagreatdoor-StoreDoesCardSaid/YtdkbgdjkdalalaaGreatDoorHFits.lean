/-
  The walk of the law HeapFits: whatever the input, it returns true and leaves what was there as it was. Condition: the table of math/bits holds what its initialiser lays.
-/
import Derived.Test.YtdkbgdjkdalalaaGreatDoorHAt
import Derived.Deep.DeepCutAuto
namespace Go.Proofs.YtdkbgdjkdalalaaGreatDoor
open Go.RowKit
/-- A step of a script. -/
structure Stp where
  k : Int
  a : Int
  b : Int
  x : Nat
/-- The script's i-th step lies in memory. -/
def StepAt (w : World) (A : Option Addr) (i : Nat) (s : Stp) : Prop :=
  ∃ b off, A = some ⟨b, off, none⟩ ∧ b < w.heap.size ∧ w.cell? ⟨b, off + i * 4, none⟩ = some (.int .i64 s.k) ∧ w.cell? ⟨b, off + i * 4 + 1, none⟩ = some (.int .i64 s.a) ∧
    w.cell? ⟨b, off + i * 4 + 2, none⟩ = some (.int .i64 s.b) ∧ w.cell? ⟨b, off + i * 4 + 3, none⟩ = some (.int .u64 (s.x : Int)) ∧ s.x < 18446744073709551616 ∧ -9223372036854775808 ≤ s.a ∧ s.a ≤ 9223372036854775807
def Script (w : World) (A : Option Addr) (n : Nat) : Prop := ∀ i, i < n → ∃ s, StepAt w A i s
theorem StepAt.below {w w' : World} {A : Option Addr} {i : Nat} {s : Stp} (h : StepAt w A i s) (hb : Below w.heap.size w w') : StepAt w' A i s := by
  obtain ⟨b, off, h1, h2, h3, h4, h5, h6, h7⟩ := h
  refine ⟨b, off, h1, Nat.lt_of_lt_of_le h2 hb.size, ?_, ?_, ?_, ?_, h7⟩
  · rw [hb.cell (p := ⟨b, _, none⟩) h2]; exact h3
  · rw [hb.cell (p := ⟨b, _, none⟩) h2]; exact h4
  · rw [hb.cell (p := ⟨b, _, none⟩) h2]; exact h5
  · rw [hb.cell (p := ⟨b, _, none⟩) h2]; exact h6
/-- No gap ahead of these objects is longer than n. -/
def GapsLe (n : Nat) : Nat → List Ob → Prop
  | _, [] => True
  | p, o :: L => o.at_ - p ≤ n ∧ GapsLe n o.next L
theorem alloc_gaps (words k n p a : Nat) (L L' : List Ob) (h : allocAt words k n p L = some (a, L')) : ∃ A B, L = A ++ B ∧ L' = A ++ newOb a k n :: B ∧ a = endOf p A ∧ GapsLe n p A := by
  induction L generalizing p a L' with
  | nil =>
    unfold allocAt at h
    split at h
    · injection h with h
      injection h with h1 h2
      subst h1 h2
      exact ⟨[], [], rfl, rfl, rfl, trivial⟩
    · cases h
  | cons o L ih =>
    unfold allocAt at h
    split at h
    · injection h with h
      injection h with h1 h2
      subst h1 h2
      exact ⟨[], o :: L, rfl, rfl, rfl, trivial⟩
    · rename_i hn
      obtain ⟨r, hr, he⟩ := Option.map_eq_some_iff.1 h
      obtain ⟨a', L1⟩ := r
      injection he with h1 h2
      subst h1 h2
      obtain ⟨A, B, i4, i5, i6, i7⟩ := ih o.next a' L1 hr
      exact ⟨o :: A, B, by rw [i4]; rfl, by rw [i5]; rfl, i6, by omega, i7⟩
theorem max_one (p n : Nat) : maxR (one p n) = n := by
  unfold one
  split
  · simp [maxR]
  · simp [maxR]; omega
theorem alloc_long (words k n p : Nat) (L : List Ob) : allocAt words k n p L = none ↔ maxR (freeFrom words p L) ≤ n := by
  induction L generalizing p with
  | nil =>
    unfold allocAt freeFrom
    rw [max_one]
    split <;> simp <;> omega
  | cons o L ih =>
    unfold allocAt freeFrom
    rw [maxR_append, max_one]
    split
    · simp; omega
    · rw [Option.map_eq_none_iff, ih]
      omega
theorem next_skip (X Y : List Ob) (c : Nat) (h : ∀ x ∈ X, x.at_ < c) : nextOb (X ++ Y) c = nextOb Y c := by
  induction X with
  | nil => rfl
  | cons x X ih =>
    have h1 := h x (by simp)
    rw [List.cons_append, nextOb, if_neg (by omega)]
    exact ih fun y hy => h y (by simp [hy])
/-- The address of the first of some objects; 0: there is none. -/
def headAt : List Ob → Nat
  | [] => 0
  | o :: _ => o.at_
theorem next_head (words p : Nat) (Y : List Ob) (h : Lies words p Y) (c : Nat) (hc : c ≤ p) : nextOb Y c = headAt Y := by
  cases Y with
  | nil => rfl
  | cons y Y =>
    have := h.1
    unfold nextOb headAt
    rw [if_pos (by omega)]
theorem lies_lt (words p : Nat) (A B : List Ob) (h : Lies words p (A ++ B)) : ∀ x ∈ A, x.at_ < endOf p A := fun x hx => by
  have := lies_mem _ _ _ (lies_head words p A B h) x hx
  have hnx : x.next = x.at_ + 1 + x.fs.length := rfl
  omega
/-- From an object on, what the next call finds. -/
theorem next_step (words p : Nat) (A B : List Ob) (o : Ob) (h : Lies words p (A ++ o :: B)) : nextOb (A ++ o :: B) (o.at_ + 1) = headAt B := by
  have h1 := lies_append words p A (o :: B) h
  have hnx : o.next = o.at_ + 1 + o.fs.length := rfl
  rw [next_skip A (o :: B) _ (fun x hx => by have := lies_lt words p A (o :: B) h x hx; have := h1.2.1; omega), nextOb, if_neg (by omega), next_head words o.next B h1.2.2 _ (by omega)]
theorem find_mid (words p : Nat) (A B : List Ob) (o : Ob) (h : Lies words p (A ++ o :: B)) : findOb (A ++ o :: B) o.at_ = some o := by
  induction A generalizing p with
  | nil => unfold findOb; simp
  | cons x A ih =>
    rw [List.cons_append, findOb]
    have h1 := lies_mem _ _ _ h.2 o (by simp)
    have hnx : x.next = x.at_ + 1 + x.fs.length := rfl
    rw [if_neg (by omega)]
    exact ih x.next h.2
theorem endOf_snoc (p : Nat) (A : List Ob) (o : Ob) : endOf p (A ++ [o]) = o.next := by
  induction A generalizing p with
  | nil => rfl
  | cons x A ih => rw [List.cons_append, endOf]; exact ih _
theorem gaps_append (n p : Nat) (A B : List Ob) (h : GapsLe n p (A ++ B)) : GapsLe n (endOf p A) B := by
  induction A generalizing p with
  | nil => exact h
  | cons o A ih => exact ih o.next h.2
/-- In the midst of the law's last loop. -/
def Seeks (L' : List Ob) (words n at_ : Nat) (last o : Nat) : Prop :=
  ∃ A1 A2 x B, L' = A1 ++ (A2 ++ x :: B) ∧ Lies words 1 L' ∧ x.at_ = at_ ∧ at_ = endOf 1 (A1 ++ A2) ∧ GapsLe n 1 (A1 ++ A2) ∧ last = endOf 1 A1 ∧ o = headAt (A2 ++ x :: B)
theorem seeks_start {words k n a : Nat} {L L' : List Ob} (hl : Lies words 1 L) (h : allocAt words k n 1 L = some (a, L')) : Seeks L' words n a 1 (nextOb L' 0) := by
  obtain ⟨_, _, h3, _⟩ := alloc_some words k n 1 a L L' hl h
  obtain ⟨A, B, _, h5, h6, h7⟩ := alloc_gaps words k n 1 a L L' h
  refine ⟨[], A, newOb a k n, B, by rw [h5]; rfl, h3, rfl, h6, h7, rfl, ?_⟩
  rw [← h5]
  exact next_head words 1 L' h3 0 (by omega)
theorem seeks_end {L' : List Ob} {words n at_ last o : Nat} (h : Seeks L' words n at_ last o) (ho : o = at_ ∨ o = 0) : o = at_ ∧ last = at_ := by
  obtain ⟨A1, A2, x, B, h1, h2, h3, h4, h5, h6, h7⟩ := h
  rw [h1] at h2
  have ha := lies_append words 1 A1 _ h2
  cases A2 with
  | nil =>
    rw [List.append_nil] at h4
    refine ⟨by rw [h7, ← h3]; rfl, by rw [h6, h4]⟩
  | cons y A2 =>
    exfalso
    rw [show headAt (y :: A2 ++ x :: B) = y.at_ from rfl] at h7
    have hy := ha.2.1
    have hx := lies_mem _ _ _ ha.2.2 x (by simp)
    have hnx : y.next = y.at_ + 1 + y.fs.length := rfl
    rcases ho with ho | ho <;> omega
theorem seeks_step {L' : List Ob} {words n at_ last o : Nat} (h : Seeks L' words n at_ last o) (ho : o ≠ at_) : ∃ x, findOb L' o = some x ∧ x.at_ = o ∧ last ≤ o ∧ o - last ≤ n ∧ x.next ≤ words ∧ Seeks L' words n at_ x.next (nextOb L' (o + 1)) ∧ o < nextOb L' (o + 1) ∧ nextOb L' (o + 1) ≤ words := by
  obtain ⟨A1, A2, x, B, h1, h2, h3, h4, h5, h6, h7⟩ := h
  have hl := h2
  rw [h1] at h2
  cases A2 with
  | nil =>
    exfalso
    exact ho (by rw [h7, ← h3]; rfl)
  | cons y A2 =>
    have h2' : Lies words 1 (A1 ++ y :: (A2 ++ x :: B)) := h2
    have ha := lies_append words 1 A1 _ h2'
    have hy : o = y.at_ := h7
    have hnx : y.next = y.at_ + 1 + y.fs.length := rfl
    have hns : nextOb L' (o + 1) = headAt (A2 ++ x :: B) := by
      rw [h1, hy]
      exact next_step words 1 A1 _ y h2'
    have hg := gaps_append n 1 A1 (y :: A2) h5
    have hhead : y.next ≤ headAt (A2 ++ x :: B) ∧ headAt (A2 ++ x :: B) ≤ words := by
      have hq := ha.2.2
      cases A2 with
      | nil => exact ⟨hq.1, by have := lies_mem _ _ _ hq x (by simp); have hn2 : x.next = x.at_ + 1 + x.fs.length := rfl; show x.at_ ≤ words; omega⟩
      | cons z A2 => exact ⟨hq.1, by have := lies_mem _ _ _ hq z (by simp); have hn2 : z.next = z.at_ + 1 + z.fs.length := rfl; show z.at_ ≤ words; omega⟩
    have hyw := (lies_mem _ _ _ ha.2 y (by simp)).2
    refine ⟨y, by rw [h1, hy]; exact find_mid words 1 A1 _ y h2', hy.symm, ?_, ?_, hyw, ⟨A1 ++ [y], A2, x, B, by rw [h1]; simp, hl, h3, by rw [h4]; simp, by simpa using h5, by rw [endOf_snoc], hns⟩, by rw [hns]; omega, by rw [hns]; exact hhead.2⟩
    · rw [h6, hy]; exact ha.2.1
    · rw [h6, hy]; exact hg.1
theorem seeks_le {L' : List Ob} {words n at_ last o : Nat} (h : Seeks L' words n at_ last o) : o ≤ words := by
  obtain ⟨A1, A2, x, B, h1, h2, h3, h4, h5, h6, h7⟩ := h
  rw [h1] at h2
  have ha := lies_append words 1 A1 _ h2
  cases A2 with
  | nil =>
    have := lies_mem _ _ _ ha.2 x (by simp)
    have hn2 : x.next = x.at_ + 1 + x.fs.length := rfl
    rw [h7]
    show x.at_ ≤ words
    omega
  | cons z A2 =>
    have := lies_mem _ _ _ ha.2 z (by simp)
    have hn2 : z.next = z.at_ + 1 + z.fs.length := rfl
    rw [h7]
    show z.at_ ≤ words
    omega
theorem size_found {L : List Ob} {o : Nat} {x : Ob} (h : findOb L o = some x) : hSize L (o : Int) = (x.fs.length, 0) := by
  unfold hSize
  rw [if_neg (by omega), Int.toNat_natCast, h]
end Go.Proofs.YtdkbgdjkdalalaaGreatDoor
