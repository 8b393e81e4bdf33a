/-
  A heap as a list of objects: the free runs between them, and what laying and taking away an object does to these.
-/
import Derived.Test.YtdkbgdjkdalalaaGreatDoorHGive
import Derived.Test.YtdkbgdjkdalalaaGreatDoorHLook
namespace Go.Proofs.YtdkbgdjkdalalaaGreatDoor
/-- An object: its address, its kind, its fields. -/
structure Ob where
  at_ : Nat
  kind : Nat
  fs : List Nat
def Ob.next (o : Ob) : Nat := o.at_ + 1 + o.fs.length
/-- The objects lie in rising order from cell p on, none over another, within so many words. -/
def Lies (words : Nat) : Nat → List Ob → Prop
  | p, [] => p ≤ words
  | p, o :: L => p ≤ o.at_ ∧ Lies words o.next L
def one (p n : Nat) : List (Nat × Nat) := if 0 < n then [(p, n)] else []
/-- The free runs from cell p on. -/
def freeFrom (words : Nat) : Nat → List Ob → List (Nat × Nat)
  | p, [] => one p (words - p)
  | p, o :: L => one p (o.at_ - p) ++ freeFrom words o.next L
/-- Where the last of some objects ends. -/
def endOf : Nat → List Ob → Nat
  | p, [] => p
  | _, o :: L => endOf o.next L
/-- The free runs ahead of and between some objects, not behind them. -/
def freeIn : Nat → List Ob → List (Nat × Nat)
  | _, [] => []
  | p, o :: L => one p (o.at_ - p) ++ freeIn o.next L
theorem one_mem {p n : Nat} {r : Nat × Nat} (h : r ∈ one p n) : r = (p, n) ∧ 0 < n := by
  unfold one at h
  split at h
  · rename_i hn; exact ⟨by simpa using h, hn⟩
  · simp at h
theorem free_append (words p : Nat) (A B : List Ob) : freeFrom words p (A ++ B) = freeIn p A ++ freeFrom words (endOf p A) B := by
  induction A generalizing p with
  | nil => rfl
  | cons o A ih => simp only [List.cons_append, freeFrom, freeIn, endOf, ih, List.append_assoc]
theorem lies_append (words p : Nat) (A B : List Ob) (h : Lies words p (A ++ B)) : p ≤ endOf p A ∧ Lies words (endOf p A) B := by
  induction A generalizing p with
  | nil => exact ⟨Nat.le_refl _, h⟩
  | cons o A ih =>
    obtain ⟨h1, h2⟩ := ih o.next h.2
    refine ⟨?_, h2⟩
    have := h.1
    unfold endOf
    unfold Ob.next at h1 ⊢
    omega
theorem lies_join (words p : Nat) (A B : List Ob) (hA : ∃ q, Lies q p A ∧ q = endOf p A) (hB : Lies words (endOf p A) B) : Lies words p (A ++ B) := by
  obtain ⟨q, hA, rfl⟩ := hA
  induction A generalizing p with
  | nil => exact hB
  | cons o A ih => exact ⟨hA.1, ih o.next hB (by unfold endOf at hA; exact hA.2)⟩
theorem lies_head (words p : Nat) (A B : List Ob) (h : Lies words p (A ++ B)) : Lies (endOf p A) p A := by
  induction A generalizing p with
  | nil => exact Nat.le_refl _
  | cons o A ih => exact ⟨h.1, ih o.next h.2⟩
theorem lies_le (words p : Nat) (L : List Ob) (h : Lies words p L) : p ≤ words := by
  induction L generalizing p with
  | nil => exact h
  | cons o L ih =>
    have h1 := h.1
    have h2 := ih o.next h.2
    unfold Ob.next at h2
    omega
theorem lies_mem (words p : Nat) (L : List Ob) (h : Lies words p L) : ∀ o ∈ L, p ≤ o.at_ ∧ o.next ≤ words := by
  induction L generalizing p with
  | nil => simp
  | cons o L ih =>
    intro x hx
    rcases List.mem_cons.1 hx with rfl | hx
    · exact ⟨h.1, lies_le _ _ _ h.2⟩
    · have h1 := ih o.next h.2 x hx
      have h0 := h.1
      unfold Ob.next at h1 ⊢
      omega
theorem lies_lower (words p q : Nat) (L : List Ob) (h : Lies words p L) (hq : q ≤ p) : Lies words q L := by
  cases L with
  | nil => exact Nat.le_trans hq h
  | cons o L => exact ⟨Nat.le_trans hq h.1, h.2⟩
theorem freeIn_lt (words p : Nat) (A B : List Ob) (h : Lies words p (A ++ B)) : ∀ r ∈ freeIn p A, p ≤ r.1 ∧ r.1 + r.2 < endOf p A := by
  induction A generalizing p with
  | nil => simp [freeIn]
  | cons o A ih =>
    intro r hr
    have h0 := h.1
    have h1 := (lies_append words o.next A B h.2).1
    have hnx : o.next = o.at_ + 1 + o.fs.length := rfl
    unfold freeIn at hr
    unfold endOf
    rcases List.mem_append.1 hr with hr | hr
    · obtain ⟨rfl, hn⟩ := one_mem hr
      simp only
      omega
    · have := ih o.next h.2 r hr
      omega
theorem freeFrom_ge (words p : Nat) (L : List Ob) (h : Lies words p L) : ∀ r ∈ freeFrom words p L, p ≤ r.1 ∧ r.1 + r.2 ≤ words ∧ 0 < r.2 := by
  induction L generalizing p with
  | nil =>
    intro r hr
    obtain ⟨rfl, hn⟩ := one_mem hr
    have : p ≤ words := h
    simp only
    omega
  | cons o L ih =>
    intro r hr
    have h0 := h.1
    have h1 := lies_le _ _ _ h.2
    unfold freeFrom at hr
    rcases List.mem_append.1 hr with hr | hr
    · obtain ⟨rfl, hn⟩ := one_mem hr
      unfold Ob.next at h1
      simp only
      omega
    · have := ih o.next h.2 r hr
      unfold Ob.next at this
      omega
/-- The gap ahead of some objects, and the runs behind it. -/
def gapOf (words p : Nat) : List Ob → Nat
  | [] => words - p
  | o :: _ => o.at_ - p
def restOf (words : Nat) : List Ob → List (Nat × Nat)
  | [] => []
  | o :: L => freeFrom words o.next L
theorem free_gap (words p : Nat) (L : List Ob) : freeFrom words p L = one p (gapOf words p L) ++ restOf words L := by
  cases L with
  | nil => simp [freeFrom, gapOf, restOf]
  | cons o L => rfl
theorem gap_lower (words p q : Nat) (L : List Ob) (h : Lies words p L) (hq : q ≤ p) : gapOf words q L = gapOf words p L + (p - q) := by
  cases L with
  | nil => have : p ≤ words := h; show words - q = words - p + (p - q); omega
  | cons o L => have := h.1; show o.at_ - q = o.at_ - p + (p - q); omega
theorem rest_gt (words p : Nat) (L : List Ob) (h : Lies words p L) : ∀ r ∈ restOf words L, p < r.1 := by
  cases L with
  | nil => simp [restOf]
  | cons o L =>
    intro r hr
    have := freeFrom_ge words o.next L h.2 r hr
    have h0 := h.1
    unfold Ob.next at this
    omega
theorem cutPos_skip (X Z : List (Nat × Nat)) (a : Nat) (h : ∀ r ∈ X, r.1 < a) : cutPos (X ++ Z) a = X.length + cutPos Z a := by
  induction X with
  | nil => simp
  | cons r X ih =>
    have h1 := h r (by simp)
    have h2 := ih (fun r hr => h r (by simp [hr]))
    unfold cutPos at *
    rw [List.cons_append, List.findIdx_cons, h2]
    simp [show ¬ a ≤ r.1 by omega]
    omega
theorem cutPos_stop (Z : List (Nat × Nat)) (a : Nat) (h : ∀ r ∈ Z, a ≤ r.1) : cutPos Z a = 0 := by
  cases Z with
  | nil => rfl
  | cons r Z =>
    unfold cutPos
    rw [List.findIdx_cons]
    simp [h r (by simp)]
theorem getD_past (X Z : List (Nat × Nat)) (j : Nat) (d : Nat × Nat) : (X ++ Z).getD (X.length + j) d = Z.getD j d := by
  simp [List.getD_eq_getElem?_getD, List.getElem?_append_right]
theorem getD_last (X Z : List (Nat × Nat)) (h : 0 < X.length) (d : Nat × Nat) : ∃ r ∈ X, (X ++ Z).getD (X.length - 1) d = r := by
  refine ⟨X[X.length - 1], List.getElem_mem _, ?_⟩
  rw [List.getD_eq_getElem?_getD, List.getElem?_append_left (by omega), List.getElem?_eq_getElem (by omega)]
  rfl
theorem not_joinL (X Z : List (Nat × Nat)) (a : Nat) (h : ∀ r ∈ X, r.1 + r.2 < a) : ¬ joinL (X ++ Z) X.length a := by
  rintro ⟨h1, h2⟩
  obtain ⟨r, hr, he⟩ := getD_last X Z h1 (0, 0)
  rw [he] at h2
  have := h r hr
  omega
theorem not_joinR (X Y : List (Nat × Nat)) (r1 : Nat × Nat) (h : ∀ r ∈ Y, r1.1 + r1.2 < r.1) : ¬ joinR (X ++ Y) X.length r1 := by
  rintro ⟨h1, h2⟩
  cases Y with
  | nil => simp at h1
  | cons y Y =>
    have h3 := getD_past X (y :: Y) 0 (0, 0)
    rw [Nat.add_zero] at h3
    rw [h3] at h2
    have := h y (by simp)
    simp at h2
    omega
theorem give_mid (X Y : List (Nat × Nat)) (e n1 c n2 : Nat) (hc : 0 < c) (hX : ∀ r ∈ X, r.1 + r.2 < e) (hY : ∀ r ∈ Y, e + n1 + c < r.1) :
    giveRuns (X ++ (one e n1 ++ (one (e + n1 + c) n2 ++ Y))) (e + n1) c = X ++ (e, n1 + c + n2) :: Y := by
  have hX1 : ∀ r ∈ X, r.1 < e + n1 := fun r hr => by have := hX r hr; omega
  have hXa : ∀ r ∈ X, r.1 + r.2 < e + n1 := fun r hr => by have := hX r hr; omega
  have hY1 : ∀ r ∈ Y, e + n1 ≤ r.1 := fun r hr => by have := hY r hr; omega
  have hY2 : ∀ r ∈ (e + n1 + c, n2) :: Y, e + n1 ≤ r.1 := fun r hr => by
    rcases List.mem_cons.1 hr with rfl | hr
    · simp only; omega
    · exact hY1 r hr
  by_cases h1 : 0 < n1
  · have hL : ∀ Z, joinL (X ++ (e, n1) :: Z) (X.length + 1) (e + n1) := fun Z => ⟨by omega, by
      have h3 := getD_past X ((e, n1) :: Z) 0 (0, 0)
      rw [Nat.add_zero] at h3
      rw [Nat.add_sub_cancel, h3]; rfl⟩
    have hg : ∀ Z, (X ++ (e, n1) :: Z).getD (X.length + 1 - 1) (0, 0) = (e, n1) := fun Z => by
      have h3 := getD_past X ((e, n1) :: Z) 0 (0, 0)
      rw [Nat.add_zero] at h3
      rw [Nat.add_sub_cancel, h3]; rfl
    have hcut : ∀ Z, (∀ r ∈ Z, e + n1 ≤ r.1) → cutPos (X ++ (e, n1) :: Z) (e + n1) = X.length + 1 := fun Z hZ => by
      rw [cutPos_skip X _ _ hX1, show (e, n1) :: Z = [(e, n1)] ++ Z from rfl, cutPos_skip [(e, n1)] Z _ (by simp; omega), cutPos_stop Z _ hZ]
      rfl
    by_cases h2 : 0 < n2
    · rw [show one e n1 = [(e, n1)] by unfold one; rw [if_pos h1], show one (e + n1 + c) n2 = [(e + n1 + c, n2)] by unfold one; rw [if_pos h2]]
      simp only [List.cons_append, List.nil_append]
      have hR : joinR (X ++ (e, n1) :: (e + n1 + c, n2) :: Y) (X.length + 1) (e, n1 + c) := ⟨by simp, by rw [getD_past]; simp only [List.getD_eq_getElem?_getD]; simp; omega⟩
      unfold giveRuns leftPos leftRun
      rw [hcut _ hY2, if_pos (hL _), if_pos (hL _), hg]
      unfold rightPos rightRun
      rw [if_pos hR, if_pos hR, getD_past]
      unfold swapAt
      rw [Nat.add_sub_cancel, List.take_left' rfl, show X ++ (e, n1) :: (e + n1 + c, n2) :: Y = (X ++ [(e, n1), (e + n1 + c, n2)]) ++ Y by simp, List.drop_left' (by simp)]
      rfl
    · obtain rfl : n2 = 0 := by omega
      rw [show one e n1 = [(e, n1)] by unfold one; rw [if_pos h1], show one (e + n1 + c) 0 = [] from rfl]
      simp only [List.cons_append, List.nil_append]
      have hR : ¬ joinR (X ++ (e, n1) :: Y) (X.length + 1) (e, n1 + c) := by
        have h3 := not_joinR (X ++ [(e, n1)]) Y (e, n1 + c) (fun r hr => by have := hY r hr; simp only; omega)
        rw [show (X ++ [(e, n1)]) ++ Y = X ++ (e, n1) :: Y by simp, show (X ++ [(e, n1)]).length = X.length + 1 by simp] at h3
        exact h3
      unfold giveRuns leftPos leftRun
      rw [hcut _ hY1, if_pos (hL _), if_pos (hL _), hg]
      unfold rightPos rightRun
      rw [if_neg hR, if_neg hR]
      unfold swapAt
      rw [Nat.add_sub_cancel, List.take_left' rfl, show X ++ (e, n1) :: Y = (X ++ [(e, n1)]) ++ Y by simp, List.drop_left' (by simp)]
      rfl
  · obtain rfl : n1 = 0 := by omega
    simp only [Nat.add_zero, Nat.zero_add] at *
    have hcut : ∀ Z, (∀ r ∈ Z, e ≤ r.1) → cutPos (X ++ Z) e = X.length := fun Z hZ => by
      rw [cutPos_skip X _ _ hX1, cutPos_stop Z _ hZ]; rfl
    rw [show one e 0 = [] from rfl]
    by_cases h2 : 0 < n2
    · rw [show one (e + c) n2 = [(e + c, n2)] by unfold one; rw [if_pos h2]]
      simp only [List.cons_append, List.nil_append]
      have hg : (X ++ (e + c, n2) :: Y).getD X.length (0, 0) = (e + c, n2) := by
        have h3 := getD_past X ((e + c, n2) :: Y) 0 (0, 0)
        rw [Nat.add_zero] at h3
        rw [h3]; rfl
      have hR : joinR (X ++ (e + c, n2) :: Y) X.length (e, c) := ⟨by simp, by rw [hg]⟩
      unfold giveRuns leftPos leftRun
      rw [hcut _ hY2, if_neg (not_joinL X _ e hXa), if_neg (not_joinL X _ e hXa)]
      unfold rightPos rightRun
      rw [if_pos hR, if_pos hR, hg]
      unfold swapAt
      rw [List.take_left' rfl, show X ++ (e + c, n2) :: Y = (X ++ [(e + c, n2)]) ++ Y by simp, List.drop_left' (by simp)]
    · obtain rfl : n2 = 0 := by omega
      rw [show one (e + c) 0 = [] from rfl]
      simp only [List.nil_append]
      have hR : ¬ joinR (X ++ Y) X.length (e, c) := not_joinR X Y (e, c) (fun r hr => hY r hr)
      unfold giveRuns leftPos leftRun
      rw [hcut _ hY1, if_neg (not_joinL X _ e hXa), if_neg (not_joinL X _ e hXa)]
      unfold rightPos rightRun
      rw [if_neg hR, if_neg hR]
      unfold swapAt
      rw [List.take_left' rfl, List.drop_left' rfl]
      rfl
/-- Taking an object away joins its cells with the runs beside it. -/
theorem give_free (words p : Nat) (A B : List Ob) (o : Ob) (h : Lies words p (A ++ o :: B)) :
    giveRuns (freeFrom words p (A ++ o :: B)) o.at_ (o.fs.length + 1) = freeFrom words p (A ++ B) := by
  have h1 := (lies_append words p A (o :: B) h)
  have h2 := h1.2
  have h3 := h2.1
  have h4 := h2.2
  have hq : o.next = endOf p A + (o.at_ - endOf p A) + (o.fs.length + 1) := by unfold Ob.next; omega
  rw [free_append, free_append, freeFrom, free_gap words o.next B, free_gap words (endOf p A) B, gap_lower words o.next (endOf p A) B h4 (by omega)]
  have hm := give_mid (freeIn p A) (restOf words B) (endOf p A) (o.at_ - endOf p A) (o.fs.length + 1) (gapOf words o.next B) (by omega)
    (fun r hr => (freeIn_lt words p A (o :: B) h r hr).2) (fun r hr => by have := rest_gt words o.next B h4 r hr; omega)
  rw [← hq, show endOf p A + (o.at_ - endOf p A) = o.at_ by omega] at hm
  rw [hm]
  rw [show one (endOf p A) (gapOf words o.next B + (o.next - endOf p A)) = [(endOf p A, gapOf words o.next B + (o.next - endOf p A))] by unfold one; rw [if_pos (by omega)]]
  rw [show o.at_ - endOf p A + (o.fs.length + 1) + gapOf words o.next B = gapOf words o.next B + (o.next - endOf p A) by omega]
  rfl
theorem takeRuns_fit (r : Nat × Nat) (l : List (Nat × Nat)) (n : Nat) (h : n ≤ r.2) :
    takeRuns (r :: l) n = (if r.2 = n then l else (r.1 + n, r.2 - n) :: l) ∧ takeAddr (r :: l) n = r.1 := by
  have hf : fitAt (r :: l) n = 0 := by unfold fitAt; rw [List.findIdx_cons]; simp [h]
  have hl : 0 < (r :: l).length := by simp
  have hg : (r :: l).getD 0 (0, 0) = r := rfl
  constructor
  · unfold takeRuns
    rw [hf, if_pos hl, hg]
    by_cases h2 : r.2 = n
    · rw [if_pos h2, if_pos h2]; rfl
    · rw [if_neg h2, if_neg h2]; rfl
  · unfold takeAddr
    rw [hf, if_pos hl, hg]
theorem takeRuns_skip (r : Nat × Nat) (l : List (Nat × Nat)) (n : Nat) (h : r.2 < n) :
    takeRuns (r :: l) n = r :: takeRuns l n ∧ takeAddr (r :: l) n = takeAddr l n := by
  have hf : fitAt (r :: l) n = fitAt l n + 1 := by unfold fitAt; rw [List.findIdx_cons]; simp [show ¬ n ≤ r.2 by omega]
  have hg : (r :: l).getD (fitAt l n + 1) (0, 0) = l.getD (fitAt l n) (0, 0) := by simp [List.getD_eq_getElem?_getD]
  by_cases h1 : fitAt l n < l.length
  · have h1' : fitAt l n + 1 < (r :: l).length := by simpa using h1
    constructor
    · unfold takeRuns
      rw [hf, if_pos h1', if_pos h1, hg]
      by_cases h2 : (l.getD (fitAt l n) (0, 0)).2 = n
      · rw [if_pos h2, if_pos h2]; rfl
      · rw [if_neg h2, if_neg h2]; simp
    · unfold takeAddr
      rw [hf, if_pos h1', if_pos h1, hg]
  · have h1' : ¬ fitAt l n + 1 < (r :: l).length := by simpa using h1
    constructor
    · unfold takeRuns
      rw [hf, if_neg h1', if_neg h1]
    · unfold takeAddr
      rw [hf, if_neg h1', if_neg h1]
theorem take_one_skip (p m : Nat) (l : List (Nat × Nat)) (n : Nat) (h : m < n) :
    takeRuns (one p m ++ l) n = one p m ++ takeRuns l n ∧ takeAddr (one p m ++ l) n = takeAddr l n := by
  unfold one
  split
  · exact takeRuns_skip (p, m) l n h
  · exact ⟨rfl, rfl⟩
theorem take_one_fit (p m : Nat) (l : List (Nat × Nat)) (n : Nat) (hn : 0 < n) (h : n ≤ m) :
    takeRuns (one p m ++ l) n = one (p + n) (m - n) ++ l ∧ takeAddr (one p m ++ l) n = p := by
  have h1 := takeRuns_fit (p, m) l n h
  rw [show one p m = [(p, m)] by unfold one; rw [if_pos (by omega)]]
  refine ⟨?_, h1.2⟩
  show takeRuns ((p, m) :: l) n = _
  rw [h1.1]
  unfold one
  simp only
  by_cases h2 : m = n
  · rw [if_pos h2, if_neg (by omega)]; rfl
  · rw [if_neg h2, if_pos (by omega)]; rfl
/-- A new object: its fields are the number 0, whose word is 1. -/
def newOb (a k n : Nat) : Ob := ⟨a, k, List.replicate n 1⟩
/-- Laying an object of n fields where the first gap is long enough: where, and all objects then. -/
def allocAt (words k n : Nat) : Nat → List Ob → Option (Nat × List Ob)
  | p, [] => if n < words - p then some (p, [newOb p k n]) else none
  | p, o :: L => if n < o.at_ - p then some (p, newOb p k n :: o :: L) else (allocAt words k n o.next L).map fun r => (r.1, o :: r.2)
theorem alloc_none (words k n p : Nat) (L : List Ob) (h : allocAt words k n p L = none) :
    takeAddr (freeFrom words p L) (n + 1) = 0 ∧ takeRuns (freeFrom words p L) (n + 1) = freeFrom words p L := by
  induction L generalizing p with
  | nil =>
    unfold allocAt at h
    split at h
    · cases h
    · rename_i hn
      have h1 := take_one_skip p (words - p) [] (n + 1) (by omega)
      unfold freeFrom
      rw [List.append_nil] at h1
      exact ⟨h1.2, by rw [h1.1]; simp [takeRuns]⟩
  | cons o L ih =>
    unfold allocAt at h
    split at h
    · cases h
    · rename_i hn
      have h1 := take_one_skip p (o.at_ - p) (freeFrom words o.next L) (n + 1) (by omega)
      have h2 := ih o.next (by simpa using h)
      unfold freeFrom
      exact ⟨h1.2.trans h2.1, by rw [h1.1, h2.2]⟩
theorem alloc_some (words k n p a : Nat) (L L' : List Ob) (hl : Lies words p L) (h : allocAt words k n p L = some (a, L')) :
    takeAddr (freeFrom words p L) (n + 1) = a ∧ takeRuns (freeFrom words p L) (n + 1) = freeFrom words p L' ∧ Lies words p L' ∧ ∃ A B, L = A ++ B ∧ L' = A ++ newOb a k n :: B ∧ a = endOf p A := by
  have hnew : ∀ q, (newOb q k n).next = q + (n + 1) := fun q => by unfold Ob.next newOb; simp; omega
  induction L generalizing p a L' with
  | nil =>
    unfold allocAt at h
    split at h
    · rename_i hn
      injection h with h
      injection h with h1 h2
      subst h1 h2
      have h1 := take_one_fit p (words - p) [] (n + 1) (by omega) (by omega)
      rw [List.append_nil] at h1
      refine ⟨h1.2, ?_, ⟨Nat.le_refl _, ?_⟩, [], [], rfl, rfl, rfl⟩
      · simp only [freeFrom]
        rw [h1.1, hnew, show (newOb p k n).at_ - p = 0 by unfold newOb; simp, show words - (p + (n + 1)) = words - p - (n + 1) by omega]
        simp [one]
      · show (newOb p k n).next ≤ words
        rw [hnew]; omega
    · cases h
  | cons o L ih =>
    unfold allocAt at h
    split at h
    · rename_i hn
      injection h with h
      injection h with h1 h2
      subst h1 h2
      have h1 := take_one_fit p (o.at_ - p) (freeFrom words o.next L) (n + 1) (by omega) (by omega)
      refine ⟨h1.2, ?_, ⟨Nat.le_refl _, ?_, hl.2⟩, [], o :: L, rfl, rfl, rfl⟩
      · simp only [freeFrom]
        rw [h1.1, hnew, show (newOb p k n).at_ - p = 0 by unfold newOb; simp, show o.at_ - (p + (n + 1)) = o.at_ - p - (n + 1) by omega]
        simp [one]
      · rw [hnew]; omega
    · rename_i hn
      obtain ⟨r, hr, he⟩ := Option.map_eq_some_iff.1 h
      obtain ⟨a', L1⟩ := r
      injection he with h1 h2
      subst h1 h2
      obtain ⟨i1, i2, i3, A, B, i4, i5, i6⟩ := ih o.next a' L1 hl.2 hr
      have h1 := take_one_skip p (o.at_ - p) (freeFrom words o.next L) (n + 1) (by omega)
      refine ⟨h1.2.trans i1, ?_, ⟨hl.1, i3⟩, o :: A, B, by rw [i4]; rfl, by rw [i5]; rfl, i6⟩
      simp only [freeFrom]
      rw [h1.1, i2]
end Go.Proofs.YtdkbgdjkdalalaaGreatDoor
