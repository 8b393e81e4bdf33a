/-
  A collector as the document tells it: the objects, the phase, what is grey, what is black, the sweep's place; what each call does to them; that a cycle ends. Plain mathematics.
-/
import Derived.Test.YtdkbgdjkdalalaaGreatDoorHFits
namespace Go.Proofs.YtdkbgdjkdalalaaGreatDoor
/-! Objects by their addresses. -/
theorem find_app (A B : List Ob) (c : Nat) : findOb (A ++ B) c = (findOb A c).or (findOb B c) := by
  induction A with
  | nil => rfl
  | cons o A ih =>
    simp only [List.cons_append, findOb]
    split
    · rfl
    · exact ih
theorem find_none_of {L : List Ob} {c : Nat} (h : ∀ o ∈ L, o.at_ ≠ c) : findOb L c = none := by
  cases hf : findOb L c with
  | none => rfl
  | some o =>
    obtain ⟨h1, A, B, h2, _⟩ := find_some hf
    exact absurd h1 (h o (by rw [h2]; simp))
theorem find_mem {L : List Ob} {c : Nat} {o : Ob} (h : findOb L c = some o) : o ∈ L ∧ o.at_ = c := by
  obtain ⟨h1, A, B, h2, _⟩ := find_some h
  exact ⟨by rw [h2]; simp, h1⟩
theorem find_of_mem {words p : Nat} {L : List Ob} (hl : Lies words p L) {o : Ob} (h : o ∈ L) : findOb L o.at_ = some o := by
  induction L generalizing p with
  | nil => cases h
  | cons x L ih =>
    unfold findOb
    rcases List.mem_cons.1 h with rfl | h
    · rw [if_pos rfl]
    · have h1 := lies_mem words _ L hl.2 o h
      have hnx : x.next = x.at_ + 1 + x.fs.length := rfl
      rw [if_neg (by omega)]
      exact ih hl.2 h
def IsIn (L : List Ob) (a : Nat) : Prop := (findOb L a).isSome = true
instance (L : List Ob) (a : Nat) : Decidable (IsIn L a) := by unfold IsIn; infer_instance
theorem isIn_some {L : List Ob} {a : Nat} (h : IsIn L a) : ∃ o, findOb L a = some o := Option.isSome_iff_exists.1 h
theorem isIn_of {L : List Ob} {a : Nat} {o : Ob} (h : findOb L a = some o) : IsIn L a := by unfold IsIn; rw [h]; rfl
theorem not_isIn {L : List Ob} {a : Nat} : ¬ IsIn L a ↔ findOb L a = none := by unfold IsIn; cases findOb L a <;> simp
theorem isIn_range {words : Nat} {L : List Ob} {a : Nat} (hl : Lies words 1 L) (h : IsIn L a) : 1 ≤ a ∧ a < words := by
  obtain ⟨o, ho⟩ := isIn_some h
  obtain ⟨h1, h2⟩ := find_mem ho
  have h3 := lies_mem words 1 L hl o h1
  have hnx : o.next = o.at_ + 1 + o.fs.length := rfl
  omega
theorem alloc_facts {words : Nat} {L : List Ob} (k n : Int) (hl : Lies words 1 L) :
    (∃ e : Int, e ≠ 0 ∧ hAlloc words L k n = (0, e, L)) ∨
    ∃ (a kk nn : Nat) (L' : List Ob), hAlloc words L k n = ((a : Int), 0, L') ∧ k = (kk : Int) ∧ n = (nn : Int) ∧ 1 ≤ kk ∧ kk ≤ 6 ∧ Lies words 1 L' ∧ findOb L a = none ∧ (∀ c, findOb L' c = if c = a then some (newOb a kk nn) else findOb L c) ∧ L'.length = L.length + 1 := by
  unfold hAlloc
  by_cases h1 : k < 1 ∨ 6 < k
  · rw [if_pos h1]; exact .inl ⟨8, by decide, rfl⟩
  · rw [if_neg h1]
    by_cases h2 : n < 0 ∨ 4096 < n
    · rw [if_pos h2]; exact .inl ⟨2, by decide, rfl⟩
    · rw [if_neg h2]
      cases ha : allocAt words k.toNat n.toNat 1 L with
      | none => exact .inl ⟨6, by decide, rfl⟩
      | some r =>
        obtain ⟨a, L'⟩ := r
        obtain ⟨_, _, hl', A, B, hL, hL', hae⟩ := alloc_some words _ _ 1 a L L' hl ha
        refine .inr ⟨a, k.toNat, n.toNat, L', rfl, by omega, by omega, by omega, by omega, hl', ?_, fun c => ?_, by rw [hL, hL']; simp; omega⟩
        · refine find_none_of fun o ho => ?_
          rw [hL] at ho hl
          rw [hL'] at hl'
          rcases List.mem_append.1 ho with ho | ho
          · have := lies_lt words 1 A B hl o ho
            omega
          · have h3 := (lies_append words 1 A _ hl').2
            have h4 := lies_mem words _ B h3.2 o ho
            have h5 : (newOb a k.toNat n.toNat).next = a + 1 + (newOb a k.toNat n.toNat).fs.length := rfl
            omega
        · have hA : ∀ o ∈ A, o.at_ ≠ a := fun o ho => by
            rw [hL] at hl
            have := lies_lt words 1 A B hl o ho
            omega
          rw [hL', hL, find_app, find_app]
          by_cases hc : c = a
          · subst hc
            rw [if_pos rfl, find_none_of hA]
            show findOb (newOb c k.toNat n.toNat :: B) c = _
            rw [findOb, if_pos (show (newOb c k.toNat n.toNat).at_ = c from rfl)]
          · rw [if_neg hc]
            congr 1
            show findOb (newOb a k.toNat n.toNat :: B) c = _
            rw [findOb, if_neg (show ¬ (newOb a k.toNat n.toNat).at_ = c from fun hx => hc hx.symm)]
theorem drop_facts {words : Nat} {L : List Ob} {a : Nat} (hl : Lies words 1 L) (h : IsIn L a) : Lies words 1 (dropOb L a) ∧ (∀ c, findOb (dropOb L a) c = if c = a then none else findOb L c) := by
  obtain ⟨o, ho⟩ := isIn_some h
  obtain ⟨h1, A, B, h2, h3, _⟩ := find_some ho
  subst h1
  rw [h3]
  rw [h2] at hl
  have hA : ∀ x ∈ A ++ B, x.at_ ≠ o.at_ := fun x hx => by
    have := lies_apart words 1 A B o x hl hx
    have hnx : o.next = o.at_ + 1 + o.fs.length := rfl
    have hnx : x.next = x.at_ + 1 + x.fs.length := rfl
    omega
  refine ⟨lies_drop words 1 A B o hl, fun c => ?_⟩
  by_cases hc : c = o.at_
  · subst hc
    rw [if_pos rfl]
    exact find_none_of hA
  · rw [if_neg hc, h2, find_app, find_app]
    congr 1
    rw [findOb, if_neg (fun hx => hc hx.symm)]
theorem lies_set {words p : Nat} {L : List Ob} (a i x : Nat) (h : Lies words p L) : Lies words p (setOb L a i x) := by
  induction L generalizing p with
  | nil => exact h
  | cons o L ih =>
    unfold setOb
    split
    · refine ⟨h.1, ?_⟩
      have : (o.put i x).next = o.next := by simp [Ob.next, Ob.put]
      rw [this]; exact h.2
    · exact ⟨h.1, ih h.2⟩
theorem find_set (L : List Ob) (a i x c : Nat) : findOb (setOb L a i x) c = if c = a then (findOb L a).map (fun o => o.put i x) else findOb L c := by
  induction L with
  | nil => simp [setOb, findOb]
  | cons o L ih =>
    unfold setOb
    by_cases h : o.at_ = a
    · rw [if_pos h]
      by_cases hc : c = a
      · rw [if_pos hc, findOb, if_pos (show (o.put i x).at_ = c by rw [hc]; exact h), findOb, if_pos h]; rfl
      · rw [if_neg hc, findOb, if_neg (show ¬ (o.put i x).at_ = c from fun hx => hc (hx.symm.trans h)), findOb, if_neg (fun hx => hc (hx.symm.trans h))]
    · rw [if_neg h, findOb, ih]
      by_cases hc : c = a
      · rw [if_pos hc, if_neg (fun hx => h (hx.trans hc)), if_pos hc, findOb, if_neg h]
      · rw [if_neg hc, if_neg hc, findOb]
theorem next_facts {words p : Nat} {L : List Ob} (hl : Lies words p L) (hp : 1 ≤ p) (c : Nat) :
    (nextOb L c = 0 ∧ ∀ a, IsIn L a → a < c) ∨ (IsIn L (nextOb L c) ∧ c ≤ nextOb L c ∧ nextOb L c ≠ 0 ∧ ∀ a, IsIn L a → c ≤ a → nextOb L c ≤ a) := by
  induction L generalizing p with
  | nil => exact .inl ⟨rfl, fun a h => by simp [IsIn, findOb] at h⟩
  | cons o L ih =>
    have h0 : p ≤ o.at_ := hl.1
    have hnx : o.next = o.at_ + 1 + o.fs.length := rfl
    have hin : ∀ a, IsIn (o :: L) a → a = o.at_ ∨ IsIn L a := fun a h => by
      unfold IsIn findOb at h
      split at h
      · rename_i hx; exact .inl hx.symm
      · exact .inr h
    have hge : ∀ a, IsIn L a → o.next ≤ a := fun a h => by
      obtain ⟨x, hx⟩ := isIn_some h
      obtain ⟨h1, h2⟩ := find_mem hx
      have := lies_mem words _ L hl.2 x h1
      omega
    unfold nextOb
    by_cases hc : c ≤ o.at_
    · rw [if_pos hc]
      refine .inr ⟨isIn_of (o := o) (by unfold findOb; rw [if_pos rfl]), hc, by omega, fun a ha _ => ?_⟩
      rcases hin a ha with rfl | ha
      · exact Nat.le_refl _
      · have := hge a ha; omega
    · rw [if_neg hc]
      have hi2 : ∀ a, IsIn L a → IsIn (o :: L) a := fun a h => by
        have := hge a h
        unfold IsIn findOb
        rw [if_neg (by omega)]
        exact h
      rcases ih hl.2 (by omega) with ⟨h1, h2⟩ | ⟨h1, h2, h3, h4⟩
      · refine .inl ⟨h1, fun a ha => ?_⟩
        rcases hin a ha with rfl | ha
        · omega
        · exact h2 a ha
      · refine .inr ⟨hi2 _ h1, h2, h3, fun a ha hca => ?_⟩
        rcases hin a ha with rfl | ha
        · omega
        · exact h4 a ha hca
/-! The collector. -/
structure GS where
  L : List Ob
  ph : Nat
  G : List Nat
  B : List Nat
  pos : Nat
/-- The address that a word is of; 0: none. -/
def addrW (x : Nat) : Nat := if x % 2 = 1 ∨ 2147483647 < x / 2 then 0 else x / 2
def GS.White (s : GS) (a : Nat) : Prop := IsIn s.L a ∧ a ∉ s.G ∧ a ∉ s.B
instance (s : GS) (a : Nat) : Decidable (s.White a) := by unfold GS.White; infer_instance
def GS.shade (s : GS) (x : Nat) : GS := if s.White (addrW x) then ⟨s.L, s.ph, s.G ++ [addrW x], s.B, s.pos⟩ else s
def GS.shades (s : GS) (xs : List Nat) : GS := xs.foldl GS.shade s
def without (l : List Nat) (a : Nat) : List Nat := l.filter fun b => b != a
theorem mem_without {l : List Nat} {a b : Nat} : b ∈ without l a ↔ b ∈ l ∧ b ≠ a := by simp [without]
def leastFrom : Nat → List Nat → Nat
  | a, [] => a
  | a, b :: l => leastFrom (if b < a then b else a) l
def least (l : List Nat) : Nat := leastFrom (l.headD 0) l
theorem leastFrom_spec (a : Nat) (l : List Nat) : (leastFrom a l = a ∨ leastFrom a l ∈ l) ∧ leastFrom a l ≤ a ∧ ∀ b ∈ l, leastFrom a l ≤ b := by
  induction l generalizing a with
  | nil => exact ⟨.inl rfl, Nat.le_refl _, fun b h => by cases h⟩
  | cons b l ih =>
    unfold leastFrom
    obtain ⟨h1, h2, h3⟩ := ih (if b < a then b else a)
    refine ⟨?_, ?_, fun c hc => ?_⟩
    · rcases h1 with h1 | h1
      · rw [h1]
        split
        · exact .inr (by simp)
        · exact .inl rfl
      · exact .inr (by simp [h1])
    · split at h2 <;> (try split) <;> omega
    · rcases List.mem_cons.1 hc with rfl | hc
      · split at h2 <;> (try split) <;> omega
      · exact h3 c hc
theorem least_spec {l : List Nat} (h : l ≠ []) : least l ∈ l ∧ ∀ b ∈ l, least l ≤ b := by
  obtain ⟨h1, h2, h3⟩ := leastFrom_spec (l.headD 0) l
  refine ⟨?_, h3⟩
  rcases h1 with h1 | h1
  · unfold least
    rw [h1]
    cases l with
    | nil => exact absurd rfl h
    | cons a l => simp
  · exact h1
theorem least_unique {l : List Nat} {a : Nat} (h : a ∈ l) (h2 : ∀ b ∈ l, a ≤ b) : a = least l := by
  have h3 := least_spec (l := l) (fun he => by rw [he] at h; cases h)
  have := h2 _ h3.1
  have := h3.2 _ h
  omega
def kidsOf (L : List Ob) (a : Nat) : List Nat := match findOb L a with
  | none => []
  | some o => if o.kind = 1 then [] else o.fs
def GS.black (s : GS) (a : Nat) : GS := ⟨s.L, s.ph, without s.G a, s.B ++ [a], s.pos⟩
def GS.blacken (s : GS) (a : Nat) : GS := (s.black a).shades (kidsOf s.L a)
def GS.sweep (s : GS) (a : Nat) : GS := ⟨if s.White a then dropOb s.L a else s.L, s.ph, s.G, without s.B a, a + 1⟩
def GS.step (s : GS) : Bool × GS :=
  if s.ph = 1 then (if s.G = [] then (false, ⟨s.L, 2, s.G, s.B, 0⟩) else (false, s.blacken (least s.G)))
  else if s.ph = 2 then (if nextOb s.L s.pos = 0 then (true, ⟨s.L, 0, s.G, s.B, s.pos⟩) else (false, s.sweep (nextOb s.L s.pos)))
  else (false, s)
def GS.begin (s : GS) (roots : List Nat) : Int × GS := if s.ph = 0 then (0, (GS.mk s.L 1 s.G s.B s.pos).shades roots) else (9, s)
def GS.laid (s : GS) (L' : List Ob) (a : Nat) : GS := ⟨L', s.ph, s.G, if s.ph = 1 ∨ (s.ph = 2 ∧ s.pos ≤ a) then s.B ++ [a] else s.B, s.pos⟩
def GS.alloc (words : Nat) (s : GS) (k n : Int) : Int × Int × GS :=
  if (hAlloc words s.L k n).2.1 = 0 then ((hAlloc words s.L k n).1, 0, s.laid (hAlloc words s.L k n).2.2 (hAlloc words s.L k n).1.toNat) else (0, (hAlloc words s.L k n).2.1, s)
def GS.put (s : GS) (L' : List Ob) : GS := ⟨L', s.ph, s.G, s.B, s.pos⟩
def GS.barrier (s : GS) (a : Int) (x : Nat) : GS := if s.ph = 1 ∧ (hKind s.L a).1 ≠ 1 then s.shade x else s
def GS.write (s : GS) (a i : Int) (x : Nat) : Int × GS :=
  if (hGet s.L a i).2 = 0 then (0, (s.barrier a (hGet s.L a i).1).put (hSet s.L a i x).2) else ((hGet s.L a i).2, s)
def GS.run (s : GS) : Nat → GS
  | 0 => s
  | k + 1 => (s.run k).step.2
/-! What shading leaves. -/
theorem shade_same (s : GS) (x : Nat) : (s.shade x).L = s.L ∧ (s.shade x).ph = s.ph ∧ (s.shade x).B = s.B ∧ (s.shade x).pos = s.pos := by
  unfold GS.shade; split <;> exact ⟨rfl, rfl, rfl, rfl⟩
theorem shade_keeps {s : GS} {a : Nat} (x : Nat) (h : a ∈ s.G) : a ∈ (s.shade x).G := by
  unfold GS.shade; split
  · simp [h]
  · exact h
theorem shade_only {s : GS} {a x : Nat} (h : a ∈ (s.shade x).G) : a ∈ s.G ∨ (a = addrW x ∧ s.White a) := by
  unfold GS.shade at h; split at h
  · rename_i hw
    rcases List.mem_append.1 h with h | h
    · exact .inl h
    · obtain rfl : a = addrW x := by simpa using h
      exact .inr ⟨rfl, hw⟩
  · exact .inl h
theorem shade_gets {s : GS} {x : Nat} (h : IsIn s.L (addrW x)) : addrW x ∈ (s.shade x).G ∨ addrW x ∈ s.B := by
  unfold GS.shade; split
  · exact .inl (by simp)
  · rename_i hw
    by_cases h1 : addrW x ∈ s.G
    · exact .inl h1
    · by_cases h2 : addrW x ∈ s.B
      · exact .inr h2
      · exact absurd ⟨h, h1, h2⟩ hw
theorem shades_same (s : GS) (xs : List Nat) : (s.shades xs).L = s.L ∧ (s.shades xs).ph = s.ph ∧ (s.shades xs).B = s.B ∧ (s.shades xs).pos = s.pos := by
  induction xs generalizing s with
  | nil => exact ⟨rfl, rfl, rfl, rfl⟩
  | cons x xs ih =>
    obtain ⟨h1, h2, h3, h4⟩ := shade_same s x
    obtain ⟨k1, k2, k3, k4⟩ := ih (s.shade x)
    exact ⟨k1.trans h1, k2.trans h2, k3.trans h3, k4.trans h4⟩
theorem shades_keeps {s : GS} {a : Nat} (xs : List Nat) (h : a ∈ s.G) : a ∈ (s.shades xs).G := by
  induction xs generalizing s with
  | nil => exact h
  | cons x xs ih => exact ih (shade_keeps x h)
theorem shades_only {s : GS} {a : Nat} {xs : List Nat} (h : a ∈ (s.shades xs).G) : a ∈ s.G ∨ ∃ x ∈ xs, a = addrW x ∧ IsIn s.L a := by
  induction xs generalizing s with
  | nil => exact .inl h
  | cons x xs ih =>
    rcases ih (s := s.shade x) h with h | ⟨y, hy, he, hi⟩
    · rcases shade_only h with h | ⟨he, hw⟩
      · exact .inl h
      · exact .inr ⟨x, by simp, he, hw.1⟩
    · rw [(shade_same s x).1] at hi
      exact .inr ⟨y, by simp [hy], he, hi⟩
theorem shades_gets {s : GS} {x : Nat} {xs : List Nat} (hx : x ∈ xs) (h : IsIn s.L (addrW x)) : addrW x ∈ (s.shades xs).G ∨ addrW x ∈ s.B := by
  induction xs generalizing s with
  | nil => cases hx
  | cons y xs ih =>
    rcases List.mem_cons.1 hx with rfl | hx
    · rcases shade_gets h with h | h
      · exact .inl (shades_keeps xs h)
      · exact .inr h
    · have := ih (s := s.shade y) hx (by rw [(shade_same s y).1]; exact h)
      rw [(shade_same s y).2.2.1] at this
      exact this
theorem shades_more (s : GS) (xs : List Nat) (x : Nat) : s.shades (xs ++ [x]) = (s.shades xs).shade x := by simp [GS.shades]
/-! What holds of every collector. -/
structure GInv (words : Nat) (s : GS) : Prop where
  lies : Lies words 1 s.L
  ph : s.ph ≤ 2
  gin : ∀ a ∈ s.G, IsIn s.L a
  bin : ∀ a ∈ s.B, IsIn s.L a
  gnd : s.G.Nodup
  bnd : s.B.Nodup
  apart : ∀ a ∈ s.G, a ∉ s.B
  gnil : s.ph ≠ 1 → s.G = []
  bnil : s.ph = 0 → s.B = []
  bpos : s.ph = 2 → ∀ a ∈ s.B, s.pos ≤ a
  pos : s.pos ≤ words
theorem nodup_snoc {l : List Nat} {a : Nat} (h : l.Nodup) (ha : a ∉ l) : (l ++ [a]).Nodup := by
  rw [List.nodup_append]
  refine ⟨h, by simp, fun x hx y hy => ?_⟩
  obtain rfl : y = a := by simpa using hy
  intro he
  exact ha (he ▸ hx)
theorem GInv.shade {words : Nat} {s : GS} (h : GInv words s) (hp : s.ph = 1) (x : Nat) : GInv words (s.shade x) := by
  unfold GS.shade
  split
  · rename_i hw
    refine ⟨h.lies, h.ph, fun a ha => ?_, h.bin, nodup_snoc h.gnd hw.2.1, h.bnd, fun a ha => ?_, fun hn => absurd hp hn, h.bnil, h.bpos, h.pos⟩
    · rcases List.mem_append.1 ha with ha | ha
      · exact h.gin a ha
      · obtain rfl : a = addrW x := by simpa using ha
        exact hw.1
    · rcases List.mem_append.1 ha with ha | ha
      · exact h.apart a ha
      · obtain rfl : a = addrW x := by simpa using ha
        exact hw.2.2
  · exact h
theorem GInv.shades {words : Nat} {s : GS} (h : GInv words s) (hp : s.ph = 1) (xs : List Nat) : GInv words (s.shades xs) := by
  induction xs generalizing s with
  | nil => exact h
  | cons x xs ih => exact ih (h.shade hp x) ((shade_same s x).2.1.trans hp)
theorem GInv.black {words : Nat} {s : GS} (h : GInv words s) (hp : s.ph = 1) {a : Nat} (ha : a ∈ s.G) : GInv words (s.black a) := by
  refine ⟨h.lies, h.ph, fun b hb => h.gin b (mem_without.1 hb).1, fun b hb => ?_, ?_, nodup_snoc h.bnd (h.apart a ha), fun b hb => ?_, fun hn => absurd hp hn, fun hn => ?_, fun hn => ?_, h.pos⟩
  · rcases List.mem_append.1 hb with hb | hb
    · exact h.bin b hb
    · obtain rfl : b = a := by simpa using hb
      exact h.gin b ha
  · exact List.Pairwise.filter _ h.gnd
  · have h1 := mem_without.1 hb
    intro hx
    rcases List.mem_append.1 hx with hx | hx
    · exact h.apart b h1.1 hx
    · exact h1.2 (by simpa using hx)
  · have : s.ph = 0 := hn
    omega
  · have : s.ph = 2 := hn
    omega
theorem GInv.step {words : Nat} {s : GS} (h : GInv words s) : GInv words s.step.2 := by
  unfold GS.step
  by_cases h1 : s.ph = 1
  · rw [if_pos h1]
    by_cases hg : s.G = []
    · rw [if_pos hg]
      exact ⟨h.lies, Nat.le_refl _, h.gin, h.bin, h.gnd, h.bnd, h.apart, fun _ => hg, fun hn => absurd (show (2 : Nat) = 0 from hn) (by decide), fun _ _ _ => Nat.zero_le _, Nat.zero_le _⟩
    · rw [if_neg hg]
      exact (h.black h1 (least_spec hg).1).shades h1 _
  · rw [if_neg h1]
    by_cases h2 : s.ph = 2
    · rw [if_pos h2]
      have hG := h.gnil h1
      rcases next_facts h.lies (Nat.le_refl _) s.pos with ⟨k1, k2⟩ | ⟨k1, k2, k3, k4⟩
      · rw [if_pos k1]
        have hB : s.B = [] := List.eq_nil_iff_forall_not_mem.2 fun a ha => by
          have := k2 a (h.bin a ha)
          have := h.bpos h2 a ha
          omega
        exact ⟨h.lies, Nat.zero_le _, h.gin, h.bin, h.gnd, h.bnd, h.apart, fun _ => hG, fun _ => hB, fun hn => absurd (show (0 : Nat) = 2 from hn) (by decide), h.pos⟩
      · rw [if_neg k3]
        generalize nextOb s.L s.pos = a at *
        have hr := isIn_range h.lies k1
        obtain ⟨d1, d2⟩ := drop_facts h.lies k1
        refine ⟨?_, h.ph, fun b hb => ?_, fun b hb => ?_, h.gnd, List.Pairwise.filter _ h.bnd, fun b hb => ?_, fun _ => hG, fun hn => ?_, fun _ b hb => ?_, by show a + 1 ≤ words; omega⟩
        · show Lies words 1 (if _ then _ else _)
          split
          · exact d1
          · exact h.lies
        · have hb : b ∈ s.G := hb
          rw [hG] at hb; cases hb
        · have h5 := mem_without.1 hb
          show IsIn (if _ then _ else _) b
          split
          · unfold IsIn; rw [d2, if_neg h5.2]; exact h.bin b h5.1
          · exact h.bin b h5.1
        · have hb : b ∈ s.G := hb
          rw [hG] at hb; cases hb
        · have hn : s.ph = 0 := hn
          omega
        · have h5 := mem_without.1 hb
          have h6 := h.bpos h2 b h5.1
          have h7 := k4 b (h.bin b h5.1) h6
          have h8 := h5.2
          show a + 1 ≤ b
          omega
    · rw [if_neg h2]; exact h
theorem GInv.begin {words : Nat} {s : GS} (h : GInv words s) (roots : List Nat) : GInv words (s.begin roots).2 := by
  unfold GS.begin
  by_cases h0 : s.ph = 0
  · rw [if_pos h0]
    refine GInv.shades (s := ⟨s.L, 1, s.G, s.B, s.pos⟩) ⟨h.lies, (show (1 : Nat) ≤ 2 by decide), h.gin, h.bin, h.gnd, h.bnd, h.apart, fun hn => absurd rfl hn, fun hn => absurd (show (1 : Nat) = 0 from hn) (by decide), fun hn => absurd (show (1 : Nat) = 2 from hn) (by decide), h.pos⟩ rfl roots
  · rw [if_neg h0]; exact h
theorem GInv.laid {words : Nat} {s : GS} (h : GInv words s) {L' : List Ob} {a : Nat} {o : Ob} (hl : Lies words 1 L') (hn : findOb s.L a = none) (hf : ∀ c, findOb L' c = if c = a then some o else findOb s.L c) : GInv words (s.laid L' a) := by
  have hold : ∀ c, IsIn s.L c → IsIn L' c := fun c hc => by
    unfold IsIn; rw [hf]; split
    · rfl
    · exact hc
  have hnew : IsIn L' a := by unfold IsIn; rw [hf, if_pos rfl]; rfl
  have hna : ¬ IsIn s.L a := not_isIn.2 hn
  have hsub : ∀ b, b ∈ (s.laid L' a).B → b ∈ s.B ∨ (b = a ∧ (s.ph = 1 ∨ (s.ph = 2 ∧ s.pos ≤ a))) := fun b hb => by
    have hb : b ∈ (if s.ph = 1 ∨ (s.ph = 2 ∧ s.pos ≤ a) then s.B ++ [a] else s.B) := hb
    split at hb
    · rename_i hc
      rcases List.mem_append.1 hb with hb | hb
      · exact .inl hb
      · exact .inr ⟨by simpa using hb, hc⟩
    · exact .inl hb
  refine ⟨hl, h.ph, fun b hb => hold b (h.gin b hb), fun b hb => ?_, h.gnd, ?_, fun b hb hx => ?_, h.gnil, fun h0 => ?_, fun h2 b hb => ?_, h.pos⟩
  · rcases hsub b hb with hb | ⟨rfl, _⟩
    · exact hold b (h.bin b hb)
    · exact hnew
  · show (if _ then _ else _ : List Nat).Nodup
    split
    · exact nodup_snoc h.bnd fun hx => hna (h.bin a hx)
    · exact h.bnd
  · rcases hsub b hx with hx | ⟨rfl, _⟩
    · exact h.apart b hb hx
    · exact hna (h.gin b hb)
  · have h0 : s.ph = 0 := h0
    show (if _ then _ else _ : List Nat) = []
    rw [if_neg (by omega)]
    exact h.bnil h0
  · have h2 : s.ph = 2 := h2
    rcases hsub b hb with hb | ⟨rfl, hc⟩
    · exact h.bpos h2 b hb
    · show s.pos ≤ b
      omega
theorem GInv.alloc {words : Nat} {s : GS} (h : GInv words s) (k n : Int) : GInv words (s.alloc words k n).2.2 := by
  unfold GS.alloc
  rcases alloc_facts k n h.lies with ⟨e, he, ha⟩ | ⟨a, kk, nn, L', ha, _, _, _, _, hl, hn, hf, _⟩
  · rw [ha, if_neg he]; exact h
  · rw [ha, if_pos rfl]
    exact h.laid hl hn hf
theorem GInv.put {words : Nat} {s : GS} (h : GInv words s) {L' : List Ob} (hl : Lies words 1 L') (hi : ∀ c, IsIn L' c ↔ IsIn s.L c) : GInv words (s.put L') :=
  ⟨hl, h.ph, fun a ha => (hi a).2 (h.gin a ha), fun a ha => (hi a).2 (h.bin a ha), h.gnd, h.bnd, h.apart, h.gnil, h.bnil, h.bpos, h.pos⟩
theorem GInv.barrier {words : Nat} {s : GS} (h : GInv words s) (a : Int) (x : Nat) : GInv words (s.barrier a x) := by
  unfold GS.barrier
  split
  · rename_i hc; exact h.shade hc.1 x
  · exact h
theorem barrier_same (s : GS) (a : Int) (x : Nat) : (s.barrier a x).L = s.L ∧ (s.barrier a x).ph = s.ph ∧ (s.barrier a x).B = s.B ∧ (s.barrier a x).pos = s.pos := by
  unfold GS.barrier; split
  · exact shade_same s x
  · exact ⟨rfl, rfl, rfl, rfl⟩
theorem hSet_facts {words : Nat} {L : List Ob} (hl : Lies words 1 L) (a i : Int) (x : Nat) : Lies words 1 (hSet L a i x).2 ∧ ∀ c, IsIn (hSet L a i x).2 c ↔ IsIn L c := by
  unfold hSet
  split
  · exact ⟨hl, fun _ => Iff.rfl⟩
  · cases hf : findOb L a.toNat with
    | none => exact ⟨hl, fun _ => Iff.rfl⟩
    | some o =>
      simp only
      split
      · exact ⟨hl, fun _ => Iff.rfl⟩
      · refine ⟨lies_set _ _ _ hl, fun c => ?_⟩
        unfold IsIn
        rw [find_set]
        split
        · rename_i hc; subst hc; rw [hf]; simp
        · exact Iff.rfl
theorem GInv.write {words : Nat} {s : GS} (h : GInv words s) (a i : Int) (x : Nat) : GInv words (s.write a i x).2 := by
  unfold GS.write
  split
  · have hs := hSet_facts h.lies a i x
    exact (h.barrier a _).put hs.1 (by rw [(barrier_same s a _).1]; exact hs.2)
  · exact h
theorem GInv.new {words : Nat} {L : List Ob} (hl : Lies words 1 L) : GInv words ⟨L, 0, [], [], 0⟩ :=
  ⟨hl, (show (0 : Nat) ≤ 2 by decide), (fun a h => by cases h), (fun a h => by cases h), List.nodup_nil, List.nodup_nil, (fun a h => by cases h), fun _ => rfl, fun _ => rfl, (fun h => by cases h), Nat.zero_le _⟩
/-! A cycle ends. -/
def GS.left (words : Nat) (s : GS) : Nat := if s.ph = 1 then 2 * words + 1 - s.B.length else if s.ph = 2 then words + 1 - s.pos else 0
theorem nodup_le {l m : List Nat} (h : l.Nodup) (hs : ∀ a ∈ l, a ∈ m) : l.length ≤ m.length := by
  induction l generalizing m with
  | nil => exact Nat.zero_le _
  | cons a l ih =>
    obtain ⟨m1, m2, rfl⟩ := List.append_of_mem (hs a (by simp))
    have h1 := List.nodup_cons.1 h
    have h2 := ih (m := m1 ++ m2) h1.2 (fun b hb => by
      have h3 := hs b (by simp [hb])
      rcases List.mem_append.1 h3 with h3 | h3
      · exact List.mem_append.2 (.inl h3)
      · rcases List.mem_cons.1 h3 with rfl | h3
        · exact absurd hb h1.1
        · exact List.mem_append.2 (.inr h3))
    simp only [List.length_append, List.length_cons] at h2 ⊢
    omega
theorem black_few {words : Nat} {s : GS} (h : GInv words s) : s.B.length < words := by
  have h1 := nodup_le (m := s.L.map Ob.at_) h.bnd (fun a ha => by
    obtain ⟨o, ho⟩ := isIn_some (h.bin a ha)
    have h2 := find_mem ho
    exact List.mem_map.2 ⟨o, h2.1, h2.2⟩)
  have h2 : s.L.length ≤ usedBy s.L := by
    generalize s.L = L
    induction L with
    | nil => exact Nat.le_refl _
    | cons o L ih => simp only [List.length_cons, usedBy]; omega
  have h3 := free_sum words 1 s.L h.lies
  have h4 := lies_le _ _ _ h.lies
  simp only [List.length_map] at h1
  omega
theorem left_le {words : Nat} (s : GS) : s.left words ≤ 2 * words + 1 := by
  unfold GS.left; split
  · omega
  · split <;> omega
theorem left_zero {words : Nat} {s : GS} (h : GInv words s) (h0 : s.ph ≠ 0) : 0 < s.left words := by
  have h1 := black_few h
  have h2 := h.ph
  have h3 := h.pos
  unfold GS.left
  split
  · omega
  · rw [if_pos (by omega)]; omega
theorem left_step {words : Nat} {s : GS} (h : GInv words s) (h0 : s.ph ≠ 0) : s.step.2.left words < s.left words := by
  have hi := h.step
  have hf := black_few h
  have hf' := black_few hi
  have hph := h.ph
  unfold GS.step at hi hf' ⊢
  by_cases h1 : s.ph = 1
  · rw [if_pos h1] at hi hf' ⊢
    by_cases hg : s.G = []
    · rw [if_pos hg]
      unfold GS.left
      rw [if_pos h1]
      simp only [Nat.reduceEqDiff, if_false, if_true]
      omega
    · rw [if_neg hg] at hi hf' ⊢
      obtain ⟨_, k2, k3, _⟩ := shades_same (s.black (least s.G)) (kidsOf s.L (least s.G))
      have k3' : (s.blacken (least s.G)).B.length = s.B.length + 1 := by
        show ((s.black (least s.G)).shades _).B.length = _
        rw [k3]
        simp [GS.black]
      have k2' : (s.blacken (least s.G)).ph = 1 := k2.trans h1
      simp only at hf' ⊢
      unfold GS.left
      rw [if_pos h1, if_pos k2']
      omega
  · have h2 : s.ph = 2 := by omega
    rw [if_neg h1, if_pos h2] at hi hf' ⊢
    rcases next_facts h.lies (Nat.le_refl _) s.pos with ⟨k1, k2⟩ | ⟨k1, k2, k3, k4⟩
    · rw [if_pos k1]
      have hp := h.pos
      unfold GS.left
      rw [if_neg h1, if_pos h2]
      simp only [Nat.reduceEqDiff, if_false]
      show 0 < _
      omega
    · rw [if_neg k3]
      have hr := isIn_range h.lies k1
      unfold GS.left
      rw [if_neg h1, if_pos h2, if_neg (show ¬ (s.sweep (nextOb s.L s.pos)).ph = 1 from h1), if_pos (show (s.sweep (nextOb s.L s.pos)).ph = 2 from h2)]
      show words + 1 - (nextOb s.L s.pos + 1) < words + 1 - s.pos
      omega
theorem GInv.run {words : Nat} {s : GS} (h : GInv words s) (k : Nat) : GInv words (s.run k) := by
  induction k with
  | zero => exact h
  | succ k ih => exact ih.step
/-- As long as it goes on, each step brings the end nearer. -/
theorem run_left {words : Nat} {s : GS} (h : GInv words s) (k : Nat) (hk : ∀ j, j < k → (s.run j).ph ≠ 0) : (s.run k).left words + k ≤ s.left words := by
  induction k with
  | zero => exact Nat.le_refl _
  | succ k ih =>
    have h1 := ih fun j hj => hk j (by omega)
    have h2 := left_step (h.run k) (hk k (by omega))
    have h3 : s.run (k + 1) = (s.run k).step.2 := rfl
    rw [h3]
    omega
def EndsAt (s : GS) (k : Nat) : Prop := (s.run k).ph = 0 ∧ ∀ j, j < k → (s.run j).ph ≠ 0
theorem ends_unique {s : GS} {j k : Nat} (h1 : EndsAt s j) (h2 : EndsAt s k) : j = k := by
  rcases Nat.lt_trichotomy j k with h | h | h
  · exact absurd h1.1 (h2.2 j h)
  · exact h
  · exact absurd h2.1 (h1.2 k h)
theorem not_left {words : Nat} {s : GS} (h : GInv words s) (k : Nat) (hk : ∀ j, j < k → (s.run j).ph ≠ 0) : k ≤ 2 * words + 1 := by
  have h1 := run_left h k hk
  have h2 := left_le (words := words) s
  omega
theorem left_alloc {words : Nat} (s : GS) (k n : Int) : (s.alloc words k n).2.2.left words ≤ s.left words := by
  unfold GS.alloc
  split
  · unfold GS.left GS.laid
    simp only
    split
    · split <;> simp <;> omega
    · exact Nat.le_refl _
  · exact Nat.le_refl _
theorem left_write {words : Nat} (s : GS) (a i : Int) (x : Nat) : (s.write a i x).2.left words ≤ s.left words := by
  unfold GS.write
  split
  · obtain ⟨_, h2, h3, h4⟩ := barrier_same s a (hGet s.L a i).1
    unfold GS.left GS.put
    simp only
    rw [h2, h3, h4]
    exact Nat.le_refl _
  · exact Nat.le_refl _
end Go.Proofs.YtdkbgdjkdalalaaGreatDoor
