/-
  A queue of addresses as a list whose place 0 is the least: putting a number in at the end and letting it rise, taking the least out and letting the last one sink. Plain mathematics.
-/
import Derived.Lib.Hide
namespace Go.Proofs.YtdkbgdjkdalalaaGreatDoor
/-- None is less than the one above it. -/
def HeapQ (l : List Nat) : Prop := ∀ j, 0 < j → j < l.length → l.getD ((j - 1) / 2) 0 ≤ l.getD j 0
def swapQ (l : List Nat) (i j : Nat) : List Nat := (l.set i (l.getD j 0)).set j (l.getD i 0)
theorem swapQ_len (l : List Nat) (i j : Nat) : (swapQ l i j).length = l.length := by simp [swapQ]
theorem getD_set_nat (l : List Nat) (i k x : Nat) : (l.set i x).getD k 0 = if k = i ∧ i < l.length then x else l.getD k 0 := by
  simp only [List.getD_eq_getElem?_getD, List.getElem?_set]
  by_cases h : i = k
  · subst h
    by_cases h2 : i < l.length
    · simp [h2]
    · simp [h2]
  · rw [if_neg h, if_neg (fun hx => h hx.1.symm)]
theorem swapQ_get (l : List Nat) (i j k : Nat) (hi : i < l.length) (hj : j < l.length) : (swapQ l i j).getD k 0 = if k = j then l.getD i 0 else if k = i then l.getD j 0 else l.getD k 0 := by
  unfold swapQ
  rw [getD_set_nat, getD_set_nat]
  simp [hi, hj]
theorem perm_set (l : List Nat) (i x : Nat) (hi : i < l.length) : (l.getD i 0 :: l.set i x).Perm (x :: l) := by
  induction l generalizing i with
  | nil => cases hi
  | cons a l ih =>
    cases i with
    | zero => exact List.Perm.swap _ _ _
    | succ i =>
      have h := ih i (by simpa using hi)
      exact (List.Perm.swap _ _ _).trans ((h.cons a).trans (List.Perm.swap _ _ _))
theorem swapQ_perm (l : List Nat) (i j : Nat) (hi : i < l.length) (hj : j < l.length) : (swapQ l i j).Perm l := by
  have h1 := perm_set (l.set i (l.getD j 0)) j (l.getD i 0) (by simpa using hj)
  have h2 := perm_set l i (l.getD j 0) hi
  have h3 : (l.set i (l.getD j 0)).getD j 0 = l.getD j 0 := by rw [getD_set_nat]; split <;> simp_all
  rw [h3] at h1
  exact (List.perm_cons _).1 (h1.trans h2)
/-- All in order but place i, which may be less than the one above it. -/
def Rises (l : List Nat) (i : Nat) : Prop := i < l.length ∧ (∀ j, 0 < j → j < l.length → j ≠ i → l.getD ((j - 1) / 2) 0 ≤ l.getD j 0) ∧ ∀ c, 0 < c → c < l.length → (c - 1) / 2 = i → 0 < i → l.getD ((i - 1) / 2) 0 ≤ l.getD c 0
theorem getD_app (l : List Nat) (x k : Nat) : (l ++ [x]).getD k 0 = if k < l.length then l.getD k 0 else if k = l.length then x else 0 := by
  simp only [List.getD_eq_getElem?_getD]
  by_cases h : k < l.length
  · rw [if_pos h, List.getElem?_append_left h]
  · rw [if_neg h, List.getElem?_append_right (by omega)]
    by_cases h2 : k = l.length
    · subst h2; simp
    · rw [if_neg h2, List.getElem?_eq_none (by simp; omega)]; rfl
theorem rises_start {l : List Nat} (h : HeapQ l) (x : Nat) : Rises (l ++ [x]) l.length := by
  refine ⟨by simp, fun j h0 hj hn => ?_, fun c h0 hc hp => ?_⟩
  · simp only [List.length_append, List.length_cons, List.length_nil] at hj
    rw [getD_app, getD_app, if_pos (by omega), if_pos (by omega)]
    exact h j h0 (by omega)
  · simp only [List.length_append, List.length_cons, List.length_nil] at hc
    omega
theorem rises_step {l : List Nat} {i : Nat} (h : Rises l i) (h0 : 0 < i) (hlt : l.getD i 0 < l.getD ((i - 1) / 2) 0) : Rises (swapQ l i ((i - 1) / 2)) ((i - 1) / 2) := by
  obtain ⟨hi, h1, h2⟩ := h
  have hp : (i - 1) / 2 < l.length := by omega
  refine ⟨by rw [swapQ_len]; exact hp, fun j hj0 hj hn => ?_, fun c hc0 hc hcp hp0 => ?_⟩
  · rw [swapQ_len] at hj
    rw [swapQ_get l i _ _ hi hp, swapQ_get l i _ _ hi hp]
    by_cases ha : j = i
    · subst ha
      rw [if_pos rfl, if_neg (by omega), if_pos rfl]
      omega
    · rw [if_neg hn, if_neg ha]
      have h3 := h1 j hj0 hj ha
      by_cases hb : (j - 1) / 2 = (i - 1) / 2
      · rw [if_pos hb]
        rw [hb] at h3
        omega
      · rw [if_neg hb]
        by_cases hc : (j - 1) / 2 = i
        · rw [if_pos hc]
          exact h2 j hj0 hj hc h0
        · rw [if_neg hc]
          exact h3
  · rw [swapQ_len] at hc
    have h3 := h1 ((i - 1) / 2) hp0 hp (by omega)
    rw [swapQ_get l i _ _ hi hp, swapQ_get l i _ _ hi hp, if_neg (by omega), if_neg (by omega), if_neg (by omega)]
    by_cases ha : c = i
    · subst ha
      rw [if_pos rfl]
      exact h3
    · rw [if_neg ha]
      have h4 := h1 c hc0 hc ha
      rw [hcp] at h4
      omega
theorem rises_done {l : List Nat} {i : Nat} (h : Rises l i) (hd : i = 0 ∨ l.getD ((i - 1) / 2) 0 ≤ l.getD i 0) : HeapQ l := by
  intro j h0 hj
  by_cases ha : j = i
  · subst ha
    rcases hd with hd | hd
    · omega
    · exact hd
  · exact h.2.1 j h0 hj ha
/-- All in order but place i, which may be greater than those below it. -/
def Sinks (l : List Nat) (i : Nat) : Prop := (∀ j, 0 < j → j < l.length → (j - 1) / 2 ≠ i → l.getD ((j - 1) / 2) 0 ≤ l.getD j 0) ∧ ∀ c, 0 < c → c < l.length → (c - 1) / 2 = i → 0 < i → l.getD ((i - 1) / 2) 0 ≤ l.getD c 0
/-- The least of a place and the two below it. -/
def low1 (l : List Nat) (i : Nat) : Nat := if 2 * i + 1 < l.length ∧ l.getD (2 * i + 1) 0 < l.getD i 0 then 2 * i + 1 else i
def lowQ (l : List Nat) (i : Nat) : Nat := if 2 * i + 2 < l.length ∧ l.getD (2 * i + 2) 0 < l.getD (low1 l i) 0 then 2 * i + 2 else low1 l i
theorem low_cases (l : List Nat) (i : Nat) : (lowQ l i = i ∨ (lowQ l i = 2 * i + 1 ∧ 2 * i + 1 < l.length) ∨ (lowQ l i = 2 * i + 2 ∧ 2 * i + 2 < l.length)) ∧
    l.getD (lowQ l i) 0 ≤ l.getD i 0 ∧ (2 * i + 1 < l.length → l.getD (lowQ l i) 0 ≤ l.getD (2 * i + 1) 0) ∧ (2 * i + 2 < l.length → l.getD (lowQ l i) 0 ≤ l.getD (2 * i + 2) 0) ∧ (lowQ l i ≠ i → l.getD (lowQ l i) 0 < l.getD i 0) := by
  unfold lowQ low1
  repeat' split
  all_goals (refine ⟨?_, ?_, ?_, ?_, ?_⟩ <;> first | omega | (intro _; omega))
theorem take_get (l : List Nat) (n k : Nat) (h : k < n) : (l.take n).getD k 0 = l.getD k 0 := by
  simp only [List.getD_eq_getElem?_getD, List.getElem?_take, if_pos h]
theorem sinks_start {l : List Nat} (h : HeapQ l) (h0 : 0 < l.length) : Sinks ((l.set 0 (l.getD (l.length - 1) 0)).take (l.length - 1)) 0 := by
  refine ⟨fun j hj0 hj hn => ?_, fun c _ _ _ h0 => absurd h0 (by omega)⟩
  simp only [List.length_take, List.length_set] at hj
  rw [take_get _ _ _ (by omega), take_get _ _ _ (by omega), getD_set_nat, getD_set_nat, if_neg (by omega), if_neg (by omega)]
  exact h j hj0 (by omega)
theorem sinks_step {l : List Nat} {i : Nat} (h : Sinks l i) (hi : i < l.length) (hn : lowQ l i ≠ i) : lowQ l i < l.length ∧ i < lowQ l i ∧ Sinks (swapQ l i (lowQ l i)) (lowQ l i) := by
  obtain ⟨h1, h2, h3, h4, h5⟩ := low_cases l i
  have hlt := h5 hn
  generalize lowQ l i = p at *
  have hp : p < l.length := by omega
  have hpi : i < p := by omega
  have hpp : (p - 1) / 2 = i := by omega
  obtain ⟨k1, k2⟩ := h
  refine ⟨hp, hpi, fun j hj0 hj hne => ?_, fun c hc0 hc hcp _ => ?_⟩
  · rw [swapQ_len] at hj
    rw [swapQ_get l i p _ hi hp, swapQ_get l i p _ hi hp, if_neg hne]
    by_cases ha : (j - 1) / 2 = i
    · rw [if_pos ha]
      by_cases hb : j = p
      · rw [if_pos hb]; omega
      · rw [if_neg hb, if_neg (by omega)]
        have : j = 2 * i + 1 ∨ j = 2 * i + 2 := by omega
        rcases this with rfl | rfl
        · exact h3 hj
        · exact h4 hj
    · rw [if_neg ha]
      have h6 := k1 j hj0 hj ha
      rw [if_neg (by omega)]
      by_cases hb : j = i
      · subst hb
        rw [if_pos rfl]
        exact k2 p (by omega) hp hpp hj0
      · rw [if_neg hb]; exact h6
  · rw [swapQ_len] at hc
    rw [swapQ_get l i p _ hi hp, swapQ_get l i p _ hi hp, hpp, if_neg (by omega), if_pos rfl, if_neg (by omega), if_neg (by omega)]
    have h6 := k1 c hc0 hc (by omega)
    rw [hcp] at h6
    exact h6
theorem sinks_done {l : List Nat} {i : Nat} (h : Sinks l i) (hn : lowQ l i = i) : HeapQ l := by
  obtain ⟨h1, h2, h3, h4, h5⟩ := low_cases l i
  intro j h0 hj
  by_cases ha : (j - 1) / 2 = i
  · have : j = 2 * i + 1 ∨ j = 2 * i + 2 := by omega
    rw [ha]
    rcases this with rfl | rfl
    · have := h3 hj; rw [hn] at this; exact this
    · have := h4 hj; rw [hn] at this; exact this
  · exact h.1 j h0 hj ha
theorem heap_least {l : List Nat} (h : HeapQ l) (j : Nat) (hj : j < l.length) : l.getD 0 0 ≤ l.getD j 0 := by
  induction j using Nat.strongRecOn with
  | _ j ih =>
    by_cases h0 : j = 0
    · subst h0; exact Nat.le_refl _
    · exact Nat.le_trans (ih ((j - 1) / 2) (by omega) (by omega)) (h j (by omega) hj)
theorem pop_perm {l : List Nat} (h0 : 0 < l.length) : (l.getD 0 0 :: (l.set 0 (l.getD (l.length - 1) 0)).take (l.length - 1)).Perm l := by
  cases l with
  | nil => cases h0
  | cons a l =>
    rcases List.eq_nil_or_concat l with rfl | ⟨l', x, rfl⟩
    · exact List.Perm.refl _
    · have h1 : (a :: (l' ++ [x])).getD ((a :: (l' ++ [x])).length - 1) 0 = x := by
        simp only [List.length_cons, List.length_append, List.length_nil, List.getD_eq_getElem?_getD]
        rw [show l'.length + (0 + 1) + 1 - 1 = l'.length + 1 by omega, List.getElem?_cons_succ, List.getElem?_append_right (Nat.le_refl _)]
        simp
      rw [List.concat_eq_append, h1, List.set_cons_zero]
      have h2 : (x :: (l' ++ [x])).take ((a :: (l' ++ [x])).length - 1) = x :: l' := by
        simp only [List.length_cons, List.length_append, List.length_nil]
        rw [show l'.length + (0 + 1) + 1 - 1 = l'.length + 1 by omega, List.take_succ_cons, List.take_left' rfl]
      rw [h2]
      show (a :: x :: l').Perm (a :: (l' ++ [x]))
      exact List.Perm.cons a ((List.perm_append_singleton x l').symm)
theorem heap_nil : HeapQ [] := fun j _ h => absurd h (Nat.not_lt_zero j)
end Go.Proofs.YtdkbgdjkdalalaaGreatDoor
