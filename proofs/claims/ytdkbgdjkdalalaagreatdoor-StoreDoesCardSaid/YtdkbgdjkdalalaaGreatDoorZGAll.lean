/-
  What a cycle keeps: all that its roots reached when it began, and all that was laid since. Plain mathematics.
  What a program that holds some words can still reach is there, whatever cycles go on. Plain mathematics.
  The walk of the laws' own first look at the collector.
  The walk of the law GcSteps: whatever the input, it returns true and leaves what was there as it was. Condition: the table of math/bits holds what its initialiser lays.
  The walks of what the document's own answer says of reaching: which word reaches what, which addresses words reach.
  The walk of Closure: the addresses of all that words reach, and what those reach, and so on.
  The walk of 'cycle': a cycle while a script goes on.
  The walk of the law GcKeeps: whatever the input, it returns true and leaves what was there as it was. Condition: the table of math/bits holds what its initialiser lays.
  The walk of the law GcFrees: whatever the input, it returns true and leaves what was there as it was. Condition: the table of math/bits holds what its initialiser lays.
  Ahead of it: only what was in reach when a cycle began, or was laid since, is marked, if only numbers are written, and into such objects alone (plain mathematics).
-/
import Derived.Test.YtdkbgdjkdalalaaGreatDoorGAbs
import Derived.Test.YtdkbgdjkdalalaaGreatDoorGLaw
import Derived.Test.YtdkbgdjkdalalaaGreatDoorGBoth
import Derived.Laws.AppendOwnNone
namespace Go.Proofs.YtdkbgdjkdalalaaGreatDoor
open Go.RowKit
inductive Reached (L : List Ob) (roots : List Nat) : Nat → Prop
  | root {x : Nat} (h : x ∈ roots) (hi : IsIn L (addrW x)) : Reached L roots (addrW x)
  | step {a x : Nat} (ha : Reached L roots a) (h : x ∈ kidsOf L a) (hi : IsIn L (addrW x)) : Reached L roots (addrW x)
theorem Reached.isIn {L : List Ob} {roots : List Nat} {a : Nat} (h : Reached L roots a) : IsIn L a := by
  cases h <;> assumption
def kindOf (L : List Ob) (a : Nat) : Option Nat := (findOb L a).map Ob.kind
def Gray (s : GS) (a : Nat) : Prop := a ∈ s.G ∨ a ∈ s.B
/-- A field as it was, or what it reached is grey or black. -/
def Kept (L0 : List Ob) (s : GS) (o0 o : Ob) : Prop := o.fs.length = o0.fs.length ∧ ∀ i, i < o0.fs.length → IsIn L0 (addrW (o0.fs.getD i 0)) → o.fs.getD i 0 = o0.fs.getD i 0 ∨ Gray s (addrW (o0.fs.getD i 0))
structure KInv (L0 : List Ob) (roots D : List Nat) (s : GS) : Prop where
  isin : ∀ a, Reached L0 roots a ∨ a ∈ D → IsIn s.L a
  kind : ∀ a, Reached L0 roots a → kindOf s.L a = kindOf L0 a
  laid : s.ph = 1 → ∀ a ∈ D, a ∈ s.B
  root : s.ph = 1 → ∀ x ∈ roots, IsIn L0 (addrW x) → Gray s (addrW x)
  done : s.ph = 1 → ∀ a, Reached L0 roots a → a ∈ s.B → ∀ x ∈ kidsOf L0 a, IsIn L0 (addrW x) → Gray s (addrW x)
  same : s.ph = 1 → ∀ a o0 o, Reached L0 roots a → findOb L0 a = some o0 → findOb s.L a = some o → o0.kind ≠ 1 → Kept L0 s o0 o
  swept : s.ph = 2 → ∀ a, Reached L0 roots a ∨ a ∈ D → a ∈ s.B ∨ a < s.pos
theorem mem_getD {l : List Nat} {x : Nat} (h : x ∈ l) : ∃ i, i < l.length ∧ l.getD i 0 = x := by
  obtain ⟨i, hi, rfl⟩ := List.getElem_of_mem h
  exact ⟨i, hi, by rw [List.getD_eq_getElem?_getD, List.getElem?_eq_getElem hi]; rfl⟩
theorem getD_mem {l : List Nat} {i : Nat} (h : i < l.length) : l.getD i 0 ∈ l := by
  rw [List.getD_eq_getElem?_getD, List.getElem?_eq_getElem h]
  exact List.getElem_mem h
theorem kids_of {L : List Ob} {a : Nat} {o : Ob} (h : findOb L a = some o) (hk : o.kind ≠ 1) : kidsOf L a = o.fs := by unfold kidsOf; rw [h]; simp [hk]
theorem kids_string {L : List Ob} {a x : Nat} (h : x ∈ kidsOf L a) : ∃ o, findOb L a = some o ∧ o.kind ≠ 1 ∧ x ∈ o.fs := by
  unfold kidsOf at h
  cases hf : findOb L a with
  | none => rw [hf] at h; cases h
  | some o =>
    rw [hf] at h
    simp only at h
    split at h
    · cases h
    · rename_i hk; exact ⟨o, rfl, hk, h⟩
/-- More is grey or black, and nothing else has changed. -/
theorem KInv.grow {L0 : List Ob} {roots D : List Nat} {s t : GS} (h : KInv L0 roots D s) (hL : t.L = s.L) (hph : t.ph = s.ph) (hpos : t.pos = s.pos) (hB : t.B = s.B) (hG : ∀ a ∈ s.G, a ∈ t.G) : KInv L0 roots D t := by
  have hg : ∀ a, Gray s a → Gray t a := fun a ha => ha.imp (hG a) (fun hb => by rw [hB]; exact hb)
  refine ⟨fun a ha => by rw [hL]; exact h.isin a ha, fun a ha => by rw [hL]; exact h.kind a ha, fun hp a ha => by rw [hB]; exact h.laid (hph ▸ hp) a ha, fun hp x hx hi => hg _ (h.root (hph ▸ hp) x hx hi), fun hp a ha hb x hx hi => hg _ (h.done (hph ▸ hp) a ha (hB ▸ hb) x hx hi), fun hp a o0 o ha h0 ho hk => ?_, fun hp a ha => by rw [hB, hpos]; exact h.swept (hph ▸ hp) a ha⟩
  rw [hL] at ho
  obtain ⟨h1, h2⟩ := h.same (hph ▸ hp) a o0 o ha h0 ho hk
  exact ⟨h1, fun i hi hin => (h2 i hi hin).imp id (hg _)⟩
theorem KInv.shade {L0 : List Ob} {roots D : List Nat} {s : GS} (h : KInv L0 roots D s) (x : Nat) : KInv L0 roots D (s.shade x) := by
  obtain ⟨h1, h2, h3, h4⟩ := shade_same s x
  exact h.grow h1 h2 h4 h3 fun a ha => shade_keeps x ha
theorem KInv.shades {L0 : List Ob} {roots D : List Nat} {s : GS} (h : KInv L0 roots D s) (xs : List Nat) : KInv L0 roots D (s.shades xs) := by
  obtain ⟨h1, h2, h3, h4⟩ := shades_same s xs
  exact h.grow h1 h2 h4 h3 fun a ha => shades_keeps xs ha
theorem KInv.begin {words : Nat} {s : GS} (hi : GInv words s) (roots : List Nat) (h0 : s.ph = 0) : KInv s.L roots [] (s.begin roots).2 := by
  unfold GS.begin
  rw [if_pos h0]
  obtain ⟨h1, h2, h3, h4⟩ := shades_same (GS.mk s.L 1 s.G s.B s.pos) roots
  refine ⟨fun a ha => ?_, fun a ha => by rw [h1], (fun _ a ha => by cases ha), fun _ x hx hin => ?_, fun _ a _ hb => ?_, fun _ a o0 o _ e0 e1 _ => ?_, fun hp => ?_⟩
  · rw [h1]
    rcases ha with ha | ha
    · exact ha.isIn
    · cases ha
  · rcases shades_gets (s := GS.mk s.L 1 s.G s.B s.pos) hx hin with h | h
    · exact .inl h
    · exact .inr (by rw [h3]; exact h)
  · rw [h3] at hb
    have hb : a ∈ s.B := hb
    rw [hi.bnil h0] at hb
    cases hb
  · rw [h1] at e1
    obtain rfl : o0 = o := Option.some.inj (e0.symm.trans e1)
    exact ⟨rfl, fun i _ _ => .inl rfl⟩
  · have hp : ((GS.mk s.L 1 s.G s.B s.pos).shades roots).ph = 2 := hp
    rw [h2] at hp
    cases hp
theorem KInv.blacken {L0 : List Ob} {roots D : List Nat} {s : GS} (h : KInv L0 roots D s) (hp : s.ph = 1) {a : Nat} (ha : a ∈ s.G) : KInv L0 roots D (s.blacken a) := by
  unfold GS.blacken
  obtain ⟨h1, h2, h3, h4⟩ := shades_same (s.black a) (kidsOf s.L a)
  have hg0 : ∀ b, Gray s b → Gray (s.black a) b := fun b hb => by
    rcases hb with hb | hb
    · by_cases he : b = a
      · exact .inr (by rw [he]; simp [GS.black])
      · exact .inl (mem_without.2 ⟨hb, he⟩)
    · exact .inr (by simp [GS.black, hb])
  have hg1 : ∀ b, Gray s b → Gray ((s.black a).shades (kidsOf s.L a)) b := fun b hb => (hg0 b hb).imp (shades_keeps _) (fun hx => by rw [h3]; exact hx)
  refine ⟨fun b hb => by rw [h1]; exact h.isin b hb, fun b hb => by rw [h1]; exact h.kind b hb, fun _ b hb => by rw [h3]; exact List.mem_append.2 (.inl (h.laid hp b hb)), fun _ x hx hin => hg1 _ (h.root hp x hx hin), fun _ b hb hbb x hx hin => ?_, fun _ b o0 o hb e0 e1 hk => ?_, fun hp2 => ?_⟩
  · rw [h3] at hbb
    have hbb : b ∈ s.B ++ [a] := hbb
    rcases List.mem_append.1 hbb with hbb | hbb
    · exact hg1 _ (h.done hp b hb hbb x hx hin)
    · obtain rfl : b = a := by simpa using hbb
      obtain ⟨o0, e0, hk, hx0⟩ := kids_string hx
      have hrx : Reached L0 roots (addrW x) := .step hb hx hin
      have hxs := h.isin _ (.inl hrx)
      obtain ⟨o, e1⟩ := isIn_some (h.isin b (.inl hb))
      have hko : o.kind = o0.kind := by
        have := h.kind b hb
        unfold kindOf at this
        rw [e0, e1] at this
        simpa using this
      obtain ⟨hl, hs⟩ := h.same hp b o0 o hb e0 e1 hk
      obtain ⟨i, hil, hix⟩ := mem_getD hx0
      rcases hs i hil (by rw [hix]; exact hin) with he | he
      · have hxk : x ∈ kidsOf s.L b := by
          rw [kids_of e1 (by rw [hko]; exact hk), ← hix, ← he]
          exact getD_mem (by omega)
        rcases shades_gets (s := s.black b) hxk hxs with hh | hh
        · exact .inl hh
        · exact .inr (by rw [h3]; exact hh)
      · rw [hix] at he
        exact hg1 _ he
  · rw [h1] at e1
    obtain ⟨hl, hs⟩ := h.same hp b o0 o hb e0 e1 hk
    exact ⟨hl, fun i hil hin => (hs i hil hin).imp id (hg1 _)⟩
  · have hp2 : ((s.black a).shades (kidsOf s.L a)).ph = 2 := hp2
    rw [h2] at hp2
    have hp2 : s.ph = 2 := hp2
    omega
/-- When nothing is grey any more, all that was reached is black. -/
theorem KInv.black {L0 : List Ob} {roots D : List Nat} {s : GS} (h : KInv L0 roots D s) (hp : s.ph = 1) (hg : s.G = []) {a : Nat} (ha : Reached L0 roots a) : a ∈ s.B := by
  have hno : ∀ b, Gray s b → b ∈ s.B := fun b hb => hb.elim (fun hx => by rw [hg] at hx; cases hx) id
  induction ha with
  | root hx hin => exact hno _ (h.root hp _ hx hin)
  | step hb hx hin ih => exact hno _ (h.done hp _ hb ih _ hx hin)
theorem KInv.step {words : Nat} {L0 : List Ob} {roots D : List Nat} {s : GS} (h : KInv L0 roots D s) (hi : GInv words s) : KInv L0 roots D s.step.2 := by
  unfold GS.step
  by_cases h1 : s.ph = 1
  · rw [if_pos h1]
    by_cases hg : s.G = []
    · rw [if_pos hg]
      refine ⟨h.isin, h.kind, fun hp => absurd (show (2 : Nat) = 1 from hp) (by decide), fun hp => absurd (show (2 : Nat) = 1 from hp) (by decide), fun hp => absurd (show (2 : Nat) = 1 from hp) (by decide), fun hp => absurd (show (2 : Nat) = 1 from hp) (by decide), fun _ a ha => ?_⟩
      rcases ha with ha | ha
      · exact .inl (h.black h1 hg ha)
      · exact .inl (h.laid h1 a ha)
    · rw [if_neg hg]
      exact h.blacken h1 (least_spec hg).1
  · rw [if_neg h1]
    by_cases h2 : s.ph = 2
    · rw [if_pos h2]
      rcases next_facts hi.lies (Nat.le_refl _) s.pos with ⟨k1, k2⟩ | ⟨k1, k2, k3, k4⟩
      · rw [if_pos k1]
        exact ⟨h.isin, h.kind, fun hp => absurd (show (0 : Nat) = 1 from hp) (by decide), fun hp => absurd (show (0 : Nat) = 1 from hp) (by decide), fun hp => absurd (show (0 : Nat) = 1 from hp) (by decide), fun hp => absurd (show (0 : Nat) = 1 from hp) (by decide), fun hp => absurd (show (0 : Nat) = 2 from hp) (by decide)⟩
      · rw [if_neg k3]
        generalize nextOb s.L s.pos = b at *
        obtain ⟨d1, d2⟩ := drop_facts hi.lies k1
        have hne : s.White b → ∀ a, Reached L0 roots a ∨ a ∈ D → a ≠ b := fun hw a ha he => by
          subst he
          rcases h.swept h2 a ha with hb | hb
          · exact hw.2.2 hb
          · omega
        have hn1 : (s.sweep b).ph ≠ 1 := h1
        refine ⟨fun a ha => ?_, fun a ha => ?_, fun hp => absurd hp hn1, fun hp => absurd hp hn1, fun hp => absurd hp hn1, fun hp => absurd hp hn1, fun _ a ha => ?_⟩
        · show IsIn (if s.White b then dropOb s.L b else s.L) a
          split
          · rename_i hw
            unfold IsIn
            rw [d2, if_neg (hne hw a ha)]
            exact h.isin a ha
          · exact h.isin a ha
        · show kindOf (if s.White b then dropOb s.L b else s.L) a = _
          split
          · rename_i hw
            unfold kindOf
            rw [d2, if_neg (hne hw a (.inl ha))]
            exact h.kind a ha
          · exact h.kind a ha
        · show a ∈ without s.B b ∨ a < b + 1
          by_cases he : a = b
          · exact .inr (by omega)
          · rcases h.swept h2 a ha with hb | hb
            · exact .inl (mem_without.2 ⟨hb, he⟩)
            · exact .inr (by omega)
    · rw [if_neg h2]; exact h
theorem KInv.laidIn {L0 : List Ob} {roots D : List Nat} {s : GS} (h : KInv L0 roots D s) {L' : List Ob} {a : Nat} {o : Ob} (hn : findOb s.L a = none) (hf : ∀ c, findOb L' c = if c = a then some o else findOb s.L c) : KInv L0 roots (D ++ [a]) (s.laid L' a) := by
  have hne : ∀ b, Reached L0 roots b → b ≠ a := fun b hb he => not_isIn.2 hn (he ▸ h.isin b (.inl hb))
  have hB : ∀ b, b ∈ s.B → b ∈ (s.laid L' a).B := fun b hb => by
    show b ∈ (if s.ph = 1 ∨ (s.ph = 2 ∧ s.pos ≤ a) then s.B ++ [a] else s.B)
    split
    · exact List.mem_append.2 (.inl hb)
    · exact hb
  have hg : ∀ b, Gray s b → Gray (s.laid L' a) b := fun b hb => hb.imp id (hB b)
  have hBa : ∀ b, b ∈ (s.laid L' a).B → b ≠ a → b ∈ s.B := fun b hb hnb => by
    have hb : b ∈ (if s.ph = 1 ∨ (s.ph = 2 ∧ s.pos ≤ a) then s.B ++ [a] else s.B) := hb
    split at hb
    · rcases List.mem_append.1 hb with hb | hb
      · exact hb
      · exact absurd (by simpa using hb) hnb
    · exact hb
  refine ⟨fun b hb => ?_, fun b hb => ?_, fun hp b hb => ?_, fun hp x hx hin => hg _ (h.root hp x hx hin), fun hp b hb hbb x hx hin => hg _ (h.done hp b hb (hBa b hbb (hne b hb)) x hx hin), fun hp b o0 o1 hb e0 e1 hk => ?_, fun hp b hb => ?_⟩
  · show IsIn L' b
    unfold IsIn
    rw [hf]
    split
    · rfl
    · rename_i hnb
      rcases hb with hb | hb
      · exact h.isin b (.inl hb)
      · rcases List.mem_append.1 hb with hb | hb
        · exact h.isin b (.inr hb)
        · exact absurd (by simpa using hb) hnb
  · show kindOf L' b = _
    unfold kindOf
    rw [hf, if_neg (hne b hb)]
    exact h.kind b hb
  · have hp : s.ph = 1 := hp
    rcases List.mem_append.1 hb with hb | hb
    · exact hB b (h.laid hp b hb)
    · obtain rfl : b = a := by simpa using hb
      show b ∈ (if s.ph = 1 ∨ (s.ph = 2 ∧ s.pos ≤ b) then s.B ++ [b] else s.B)
      rw [if_pos (.inl hp)]; simp
  · have e1 : findOb L' b = some o1 := e1
    rw [hf, if_neg (hne b hb)] at e1
    obtain ⟨hl, hs⟩ := h.same hp b o0 o1 hb e0 e1 hk
    exact ⟨hl, fun i hil hin => (hs i hil hin).imp id (hg _)⟩
  · have hp : s.ph = 2 := hp
    show b ∈ (s.laid L' a).B ∨ b < s.pos
    have hold : Reached L0 roots b ∨ b ∈ D → b ∈ (s.laid L' a).B ∨ b < s.pos := fun hb => (h.swept hp b hb).imp (hB b) id
    rcases hb with hb | hb
    · exact hold (.inl hb)
    · rcases List.mem_append.1 hb with hb | hb
      · exact hold (.inr hb)
      · obtain rfl : b = a := by simpa using hb
        by_cases hpb : s.pos ≤ b
        · left
          show b ∈ (if s.ph = 1 ∨ (s.ph = 2 ∧ s.pos ≤ b) then s.B ++ [b] else s.B)
          rw [if_pos (.inr ⟨hp, hpb⟩)]; simp
        · exact .inr (by omega)
/-- Laying an object: its address is among those laid since. -/
def laidBy (words : Nat) (s : GS) (k n : Int) (D : List Nat) : List Nat := if (s.alloc words k n).2.1 = 0 then D ++ [(s.alloc words k n).1.toNat] else D
theorem KInv.alloc {words : Nat} {L0 : List Ob} {roots D : List Nat} {s : GS} (h : KInv L0 roots D s) (hi : GInv words s) (k n : Int) : KInv L0 roots (laidBy words s k n D) (s.alloc words k n).2.2 := by
  unfold laidBy
  rcases alloc_facts k n hi.lies with ⟨e, he, ha⟩ | ⟨a, kk, nn, L', ha, _, _, _, _, hl, hn, hf, _⟩
  · have hv : s.alloc words k n = (0, e, s) := by unfold GS.alloc; rw [ha, if_neg he]
    rw [hv, if_neg he]; exact h
  · have hv : s.alloc words k n = ((a : Int), 0, s.laid L' a) := by unfold GS.alloc; rw [ha, if_pos rfl]; rfl
    rw [hv, if_pos rfl]
    exact h.laidIn hn hf
theorem hGet_some {L : List Ob} {a i : Int} (h : (hGet L a i).2 = 0) : ∃ (n j : Nat) (o : Ob), a = (n : Int) ∧ i = (j : Int) ∧ findOb L n = some o ∧ j < o.fs.length ∧ (hGet L a i).1 = o.fs.getD j 0 ∧ (∀ x, (hSet L a i x).2 = setOb L n j x) ∧ (hKind L a).1 = o.kind := by
  unfold hGet at h ⊢
  unfold hSet hKind
  by_cases ha : a < 0
  · rw [if_pos ha] at h; cases h
  · rw [if_neg ha] at h ⊢
    obtain ⟨n, rfl⟩ := Int.eq_ofNat_of_zero_le (show 0 ≤ a by omega)
    rw [Int.toNat_natCast] at h ⊢
    cases hf : findOb L n with
    | none => rw [hf] at h; cases h
    | some o =>
      rw [hf] at h
      simp only at h ⊢
      by_cases hi : i < 0 ∨ (o.fs.length : Int) ≤ i
      · rw [if_pos hi] at h; cases h
      · obtain ⟨j, rfl⟩ := Int.eq_ofNat_of_zero_le (show 0 ≤ i by omega)
        refine ⟨n, j, o, rfl, rfl, hf, by omega, by rw [if_neg hi, Int.toNat_natCast], fun x => by rw [if_neg ha, if_neg hi, Int.toNat_natCast], by rw [if_neg ha]⟩
theorem KInv.write {L0 : List Ob} {roots D : List Nat} {s : GS} (h : KInv L0 roots D s) (a i : Int) (x : Nat) : KInv L0 roots D (s.write a i x).2 := by
  unfold GS.write
  by_cases he : (hGet s.L a i).2 = 0
  · rw [if_pos he]
    obtain ⟨n, j, o, rfl, rfl, ho, hj, hg, hs, hk⟩ := hGet_some he
    rw [hs, hg]
    have hb : KInv L0 roots D (s.barrier (n : Int) (o.fs.getD j 0)) := by
      unfold GS.barrier; split
      · exact h.shade _
      · exact h
    obtain ⟨b1, b2, b3, b4⟩ := barrier_same s (n : Int) (o.fs.getD j 0)
    have hbar : s.ph = 1 → o.kind ≠ 1 → IsIn s.L (addrW (o.fs.getD j 0)) → Gray (s.barrier (n : Int) (o.fs.getD j 0)) (addrW (o.fs.getD j 0)) := fun hp hk1 hin => by
      unfold GS.barrier
      rw [if_pos ⟨hp, by rw [hk]; exact hk1⟩]
      rcases shade_gets hin with h1 | h1
      · exact .inl h1
      · exact .inr (by rw [(shade_same _ _).2.2.1]; exact h1)
    generalize s.barrier (n : Int) (o.fs.getD j 0) = t at *
    have hfind := fun c => find_set s.L n j x c
    have hisin : ∀ c, IsIn (setOb s.L n j x) c ↔ IsIn s.L c := fun c => by
      unfold IsIn; rw [hfind]
      split
      · rename_i hc; subst hc; rw [ho]; simp
      · exact Iff.rfl
    refine ⟨fun c hc => (hisin c).2 (h.isin c hc), fun c hc => ?_, hb.laid, hb.root, hb.done, fun hp c o0 o1 hc e0 e1 hk1 => ?_, hb.swept⟩
    · show kindOf (setOb s.L n j x) c = _
      rw [← h.kind c hc]
      unfold kindOf
      rw [hfind]
      split
      · rename_i hcn; subst hcn; rw [ho]; rfl
      · rfl
    · have hp : t.ph = 1 := hp
      have e1 : findOb (setOb s.L n j x) c = some o1 := e1
      rw [hfind] at e1
      by_cases hcn : c = n
      · subst hcn
        rw [if_pos rfl, ho] at e1
        obtain rfl : o.put j x = o1 := by simpa using e1
        obtain ⟨hl, hsm⟩ := hb.same hp c o0 o hc e0 (by rw [b1]; exact ho) hk1
        have hko : o.kind = o0.kind := by
          have := h.kind c hc
          unfold kindOf at this
          rw [e0, ho] at this
          simpa using this
        refine ⟨by simp [Ob.put, hl], fun i hil hin => ?_⟩
        show (o.fs.set j x).getD i 0 = _ ∨ _
        by_cases hij : i = j
        · subst hij
          rcases hsm i hil hin with h1 | h1
          · have hr : Reached L0 roots (addrW (o0.fs.getD i 0)) := .step hc (by rw [kids_of e0 hk1]; exact getD_mem hil) hin
            have h2 := hbar (b2.symm.trans hp) (by rw [hko]; exact hk1) (by rw [h1]; exact h.isin _ (.inl hr))
            rw [h1] at h2
            exact .inr h2
          · exact .inr h1
        · have h2 : (o.fs.set j x).getD i 0 = o.fs.getD i 0 := by
            simp only [List.getD_eq_getElem?_getD]
            rw [List.getElem?_set_ne (fun hx => hij hx.symm)]
          rw [h2]
          exact hsm i hil hin
      · rw [if_neg hcn] at e1
        exact hb.same hp c o0 o1 hc e0 (by rw [b1]; exact e1) hk1
  · rw [if_neg he]; exact h
theorem KInv.run {words : Nat} {L0 : List Ob} {roots D : List Nat} {s : GS} (h : KInv L0 roots D s) (hi : GInv words s) (k : Nat) : KInv L0 roots D (s.run k) := by
  induction k with
  | zero => exact h
  | succ k ih => exact ih.step (hi.run k)
/-- A number, or the word of what is kept. -/
def OkW (V : Nat → Prop) (x : Nat) : Prop := x % 2 = 1 ∨ V (addrW x)
def Alive (L0 : List Ob) (roots D : List Nat) (a : Nat) : Prop := Reached L0 roots a ∨ a ∈ D
structure SafeAt (L0 : List Ob) (roots D : List Nat) (regs : List Nat) (s : GS) : Prop where
  keep : KInv L0 roots D s
  kinds : ∀ a o, Alive L0 roots D a → findOb s.L a = some o → o.kind = 6
  regs : ∀ x ∈ regs, OkW (Alive L0 roots D) x
  fields : ∀ a o, Alive L0 roots D a → findOb s.L a = some o → ∀ x ∈ o.fs, OkW (Alive L0 roots D) x
def SafeInv (regs : List Nat) (s : GS) : Prop := ∃ L0 roots D, SafeAt L0 roots D regs s
theorem no_reach {L : List Ob} {a : Nat} (h : Reached L [] a) : False := by
  induction h with
  | root h _ => cases h
  | step _ _ _ ih => exact ih
theorem safe_start : SafeInv [1, 1, 1, 1, 1, 1] ⟨[], 0, [], [], 0⟩ := by
  refine ⟨[], [], [], ⟨⟨fun a ha => ?_, fun a ha => absurd ha no_reach, (fun _ a ha => by cases ha), (fun _ x hx => by cases hx), fun _ a ha => absurd ha no_reach, fun _ a _ _ ha => absurd ha no_reach, fun hp => absurd (show (0 : Nat) = 2 from hp) (by decide)⟩, fun a o ha => ?_, fun x hx => .inl ?_, fun a o ha => ?_⟩⟩
  · rcases ha with ha | ha
    · exact absurd ha no_reach
    · cases ha
  · rcases ha with ha | ha
    · exact absurd ha no_reach
    · cases ha
  · simp at hx; subst hx; rfl
  · rcases ha with ha | ha
    · exact absurd ha no_reach
    · cases ha
theorem SafeInv.alive {regs : List Nat} {s : GS} (h : SafeInv regs s) {x : Nat} (hx : x ∈ regs) (ho : x % 2 ≠ 1) : IsIn s.L (addrW x) := by
  obtain ⟨L0, roots, D, h⟩ := h
  rcases h.regs x hx with h1 | h1
  · exact absurd h1 ho
  · exact h.keep.isin _ h1
theorem mem_set_or {l : List Nat} {i x y : Nat} (h : y ∈ l.set i x) : y ∈ l ∨ y = x := List.mem_or_eq_of_mem_set h
theorem SafeInv.number {regs : List Nat} {s : GS} (h : SafeInv regs s) (i x : Nat) (hx : x % 2 = 1) : SafeInv (regs.set i x) s := by
  obtain ⟨L0, roots, D, h⟩ := h
  refine ⟨L0, roots, D, ⟨h.keep, h.kinds, fun y hy => ?_, h.fields⟩⟩
  rcases mem_set_or hy with hy | rfl
  · exact h.regs y hy
  · exact .inl hx
theorem step_find {words : Nat} {s : GS} (hi : GInv words s) {a : Nat} {o : Ob} (h : findOb s.step.2.L a = some o) : findOb s.L a = some o := by
  unfold GS.step at h
  by_cases h1 : s.ph = 1
  · rw [if_pos h1] at h
    by_cases hg : s.G = []
    · rw [if_pos hg] at h; exact h
    · rw [if_neg hg] at h
      have := (shades_same (s.black (least s.G)) (kidsOf s.L (least s.G))).1
      have h : findOb ((s.black (least s.G)).shades (kidsOf s.L (least s.G))).L a = some o := h
      rw [this] at h
      exact h
  · rw [if_neg h1] at h
    by_cases h2 : s.ph = 2
    · rw [if_pos h2] at h
      rcases next_facts hi.lies (Nat.le_refl _) s.pos with ⟨k1, _⟩ | ⟨k1, _, k3, _⟩
      · rw [if_pos k1] at h; exact h
      · rw [if_neg k3] at h
        have h : findOb (if s.White (nextOb s.L s.pos) then dropOb s.L (nextOb s.L s.pos) else s.L) a = some o := h
        split at h
        · rw [(drop_facts hi.lies k1).2] at h
          split at h
          · cases h
          · exact h
        · exact h
    · rw [if_neg h2] at h; exact h
theorem SafeInv.step {words : Nat} {regs : List Nat} {s : GS} (h : SafeInv regs s) (hi : GInv words s) : SafeInv regs s.step.2 := by
  obtain ⟨L0, roots, D, h⟩ := h
  exact ⟨L0, roots, D, ⟨h.keep.step hi, fun a o ha ho => h.kinds a o ha (step_find hi ho), h.regs, fun a o ha ho => h.fields a o ha (step_find hi ho)⟩⟩
theorem odd_no {words x : Nat} {L : List Ob} (hl : Lies words 1 L) (h : x % 2 = 1) : ¬ IsIn L (addrW x) := fun hin => by
  have : addrW x = 0 := by unfold addrW; rw [if_pos (.inl h)]
  rw [this] at hin
  have := isIn_range hl hin
  omega
theorem SafeInv.begin {words : Nat} {regs : List Nat} {s : GS} (h : SafeInv regs s) (hi : GInv words s) : SafeInv regs (s.begin regs).2 := by
  by_cases h0 : s.ph = 0
  · obtain ⟨L0, roots, D, h⟩ := h
    have hL : (s.begin regs).2.L = s.L := by
      unfold GS.begin; rw [if_pos h0]; exact (shades_same _ _).1
    have hsub : ∀ a, Reached s.L regs a → Alive L0 roots D a := fun a ha => by
      induction ha with
      | root hx hin =>
        rcases h.regs _ hx with h1 | h1
        · exact absurd hin (odd_no hi.lies h1)
        · exact h1
      | step hb hx hin ih =>
        obtain ⟨o, ho, _, hxo⟩ := kids_string hx
        rcases h.fields _ o ih ho _ hxo with h1 | h1
        · exact absurd hin (odd_no hi.lies h1)
        · exact h1
    refine ⟨s.L, regs, [], ⟨.begin hi regs h0, fun a o ha ho => ?_, fun x hx => ?_, fun a o ha ho x hx => ?_⟩⟩
    · rw [hL] at ho
      rcases ha with ha | ha
      · exact h.kinds a o (hsub a ha) ho
      · cases ha
    · rcases h.regs x hx with h1 | h1
      · exact .inl h1
      · exact .inr (.inl (.root hx (h.keep.isin _ h1)))
    · rw [hL] at ho
      rcases ha with ha | ha
      · rcases h.fields a o (hsub a ha) ho x hx with h1 | h1
        · exact .inl h1
        · exact .inr (.inl (.step ha (by rw [kids_of ho (by rw [h.kinds a o (hsub a ha) ho]; decide)]; exact hx) (h.keep.isin _ h1)))
      · cases ha
  · unfold GS.begin
    rw [if_neg h0]; exact h
theorem addr_ref {a : Nat} (h : a ≤ 2147483647) : addrW (2 * a) = a := by
  unfold addrW
  rw [if_neg (by omega)]; omega
theorem SafeInv.alloc {words : Nat} {regs : List Nat} {s : GS} (h : SafeInv regs s) (hi : GInv words s) (hw : words ≤ 65536) (n : Int) (r : Nat) :
    ((s.alloc words 6 n).2.1 ≠ 0 → SafeInv regs (s.alloc words 6 n).2.2) ∧ ((s.alloc words 6 n).2.1 = 0 → 0 ≤ (s.alloc words 6 n).1 ∧ (s.alloc words 6 n).1 ≤ 65536 ∧ SafeInv (regs.set r (2 * (s.alloc words 6 n).1.toNat)) (s.alloc words 6 n).2.2) := by
  obtain ⟨L0, roots, D, h⟩ := h
  have hk := h.keep.alloc hi 6 n
  unfold laidBy at hk
  rcases alloc_facts 6 n hi.lies with ⟨e, he, ha⟩ | ⟨a, kk, nn, L', ha, hkk, _, _, _, hl, hn, hf, _⟩
  · have hv : s.alloc words 6 n = (0, e, s) := by unfold GS.alloc; rw [ha, if_neg he]
    rw [hv]
    exact ⟨fun _ => ⟨L0, roots, D, h⟩, fun hx => absurd hx he⟩
  · have hv : s.alloc words 6 n = ((a : Int), 0, s.laid L' a) := by unfold GS.alloc; rw [ha, if_pos rfl]; rfl
    rw [hv, if_pos rfl] at hk
    rw [hv]
    refine ⟨fun hx => absurd rfl hx, fun _ => ?_⟩
    have hia : IsIn L' a := isIn_of (by rw [hf, if_pos rfl])
    have hr := isIn_range hl hia
    simp only [Int.toNat_natCast] at hk ⊢
    have hup : ∀ b, Alive L0 roots D b → Alive L0 roots (D ++ [a]) b := fun b hb => hb.imp id fun hx => List.mem_append.2 (.inl hx)
    have hok : ∀ x, OkW (Alive L0 roots D) x → OkW (Alive L0 roots (D ++ [a])) x := fun x hx => hx.imp id (hup _)
    have hdown : ∀ b, Alive L0 roots (D ++ [a]) b → b ≠ a → Alive L0 roots D b := fun b hb hne => by
      rcases hb with hb | hb
      · exact .inl hb
      · rcases List.mem_append.1 hb with hb | hb
        · exact .inr hb
        · exact absurd (by simpa using hb) hne
    refine ⟨by omega, by omega, L0, roots, D ++ [a], ⟨hk, fun b o hb ho => ?_, fun x hx => ?_, fun b o hb ho x hx => ?_⟩⟩
    · have ho : findOb L' b = some o := ho
      rw [hf] at ho
      by_cases hba : b = a
      · rw [if_pos hba] at ho
        obtain rfl : newOb a kk nn = o := by simpa using ho
        show kk = 6
        omega
      · rw [if_neg hba] at ho
        exact h.kinds b o (hdown b hb hba) ho
    · rcases mem_set_or hx with hx | rfl
      · exact hok x (h.regs x hx)
      · exact .inr (by rw [addr_ref (by omega)]; exact .inr (by simp))
    · have ho : findOb L' b = some o := ho
      rw [hf] at ho
      by_cases hba : b = a
      · rw [if_pos hba] at ho
        obtain rfl : newOb a kk nn = o := by simpa using ho
        have := List.eq_of_mem_replicate (show x ∈ List.replicate nn 1 from hx)
        exact .inl (by rw [this])
      · rw [if_neg hba] at ho
        exact hok x (h.fields b o (hdown b hb hba) ho x hx)
theorem SafeInv.write {regs : List Nat} {s : GS} (h : SafeInv regs s) (a i : Int) (x : Nat) (hx : x ∈ regs) : SafeInv regs (s.write a i x).2 := by
  obtain ⟨L0, roots, D, h⟩ := h
  refine ⟨L0, roots, D, ⟨h.keep.write a i x, fun b o hb ho => ?_, h.regs, fun b o hb ho y hy => ?_⟩⟩
  · unfold GS.write at ho
    by_cases he : (hGet s.L a i).2 = 0
    · rw [if_pos he] at ho
      obtain ⟨n, j, o1, rfl, rfl, ho1, hj, hg, hs, hk⟩ := hGet_some he
      have ho : findOb (hSet s.L (n : Int) (j : Int) x).2 b = some o := ho
      rw [hs, find_set] at ho
      split at ho
      · rename_i hbn
        subst hbn
        rw [ho1] at ho
        obtain rfl : o1.put j x = o := by simpa using ho
        exact h.kinds b o1 hb ho1
      · exact h.kinds b o hb ho
    · rw [if_neg he] at ho
      exact h.kinds b o hb ho
  · unfold GS.write at ho
    by_cases he : (hGet s.L a i).2 = 0
    · rw [if_pos he] at ho
      obtain ⟨n, j, o1, rfl, rfl, ho1, hj, hg, hs, hk⟩ := hGet_some he
      have ho : findOb (hSet s.L (n : Int) (j : Int) x).2 b = some o := ho
      rw [hs, find_set] at ho
      split at ho
      · rename_i hbn
        subst hbn
        rw [ho1] at ho
        obtain rfl : o1.put j x = o := by simpa using ho
        rcases mem_set_or (show y ∈ o1.fs.set j x from hy) with hy | rfl
        · exact h.fields b o1 hb ho1 y hy
        · exact h.regs y hx
      · exact h.fields b o hb ho y hy
    · rw [if_neg he] at ho
      exact h.fields b o hb ho y hy
theorem SafeInv.load {regs : List Nat} {s : GS} (h : SafeInv regs s) (r x : Nat) (hx : x ∈ regs) (ho : x % 2 ≠ 1) (i : Int) (he : (hGet s.L (addrW x : Nat) i).2 = 0) : SafeInv (regs.set r (hGet s.L (addrW x : Nat) i).1) s := by
  obtain ⟨L0, roots, D, h⟩ := h
  obtain ⟨n, j, o, hn, rfl, ho1, hj, hg, _, _⟩ := hGet_some he
  have hn : addrW x = n := by omega
  subst hn
  refine ⟨L0, roots, D, ⟨h.keep, h.kinds, fun y hy => ?_, h.fields⟩⟩
  rcases mem_set_or hy with hy | rfl
  · exact h.regs y hy
  · rw [hg]
    rcases h.regs x hx with h1 | h1
    · exact absurd h1 ho
    · exact h.fields _ o h1 ho1 _ (getD_mem hj)
def wkL : List Ob := [⟨1, 5, [6]⟩, ⟨3, 5, [1]⟩, ⟨5, 5, [1]⟩]
def wkL3 : List Ob := [⟨1, 5, [1]⟩, ⟨3, 5, [1]⟩, ⟨5, 5, [1]⟩]
def wkL4 : List Ob := [⟨1, 5, [1]⟩, ⟨3, 5, [1]⟩, ⟨5, 5, [1]⟩, ⟨7, 5, [1]⟩]
def wkL5 : List Ob := [⟨1, 5, [1]⟩, ⟨3, 5, [1]⟩, ⟨7, 5, [1]⟩]
def wkAt : Nat → List Ob
  | 0 => []
  | 1 => [⟨1, 5, [1]⟩]
  | 2 => [⟨1, 5, [1]⟩, ⟨3, 5, [1]⟩]
  | _ => wkL3
def wk0 : GS := ⟨wkL, 0, [], [], 0⟩
def wk1 : GS := ⟨wkL, 1, [1], [], 0⟩
def wk2 : GS := ⟨wkL, 1, [3], [1], 0⟩
def wk3 : GS := ⟨wkL3, 1, [3], [1], 0⟩
def wk4 : GS := ⟨wkL4, 1, [3], [1, 7], 0⟩
def wk5 : GS := ⟨wkL5, 0, [], [], 8⟩
theorem wk_set : hSet wkL3 1 0 6 = (0, wkL) := by kernel_rfl
theorem wk_begin : wk0.begin [2] = (0, wk1) := by kernel_rfl
theorem wk_busy : wk1.begin [] = (9, wk1) := by kernel_rfl
theorem wk_step : wk1.step = (false, wk2) := by kernel_rfl
theorem wk_write : wk2.write 1 0 1 = (0, wk3) := by kernel_rfl
theorem wk_alloc : wk3.alloc 20 5 1 = (7, 0, wk4) := by kernel_rfl
theorem wk_white1 : decide ((0 : Int) ≤ 3 ∧ wk1.White (3 : Int).toNat) = true := by kernel_rfl
theorem wk_white2 : decide ((0 : Int) ≤ 3 ∧ wk2.White (3 : Int).toNat) = false := by kernel_rfl
theorem wk_white5 : decide ((0 : Int) ≤ 7 ∧ wk5.White (7 : Int).toNat) = true := by kernel_rfl
theorem wk_run : wk4.run 7 = wk5 := by kernel_rfl
theorem wk_phs : [0, 1, 2, 3, 4, 5, 6].map (fun j => (wk4.run j).ph) = [1, 1, 2, 2, 2, 2, 2] := by kernel_rfl
theorem wk_ends : EndsAt wk4 7 := by
  refine ⟨by rw [wk_run]; rfl, fun j hj => ?_⟩
  have h := wk_phs
  simp only [List.map_cons, List.map_nil, List.cons.injEq, and_true] at h
  have : j = 0 ∨ j = 1 ∨ j = 2 ∨ j = 3 ∨ j = 4 ∨ j = 5 ∨ j = 6 := by omega
  rcases this with rfl | rfl | rfl | rfl | rfl | rfl | rfl <;> omega
theorem wk_next : nextOb wkL5 (4 : Int).toNat = 7 := by kernel_rfl
theorem left_begin {words : Nat} (s : GS) (xs : List Nat) : (s.begin xs).2.left words ≤ 2 * words + 1 := left_le _
/-- The collector over a heap that lies behind the law's start. -/
theorem new_mid {q r m : Nat} {w wr : World} (h : Mid2 q r m w wr) (hm : m ≤ 65536) : ∃ L, Calls Tryz.prog 29 #[.pointer (some ⟨q, 0, none⟩)] wr (VNew (fun b => b < w.heap.size) q m L wr) := by
  obtain ⟨L, ⟨S, T, h1, h2, h3, h4, h5, h6, h7⟩, hb⟩ := h
  exact ⟨L, v_New _ q m S L wr h1 hm h4 h7⟩
theorem step_idle {s : GS} (h : s.ph = 0) : s.step = (false, s) := by unfold GS.step; rw [if_neg (by omega), if_neg (by omega)]
theorem Script3.below {w w' : World} {A : Option Addr} {n : Nat} (h : Script3 w (fun b => b < w.heap.size) A n) (hb : Below w.heap.size w w') : Script3 w' (fun b => b < w'.heap.size) A n := fun i hi => by
  obtain ⟨s, b, off, h1, h2, h3, e0, e1, e2, e3, e4, h4, h5, h6⟩ := h i hi
  have hz := hb.size
  refine ⟨s, b, off, h1, by omega, by omega, ?_, ?_, ?_, ?_, ?_, h4, ?_, h6⟩
  · rw [hb.cell (p := ⟨b, _, none⟩) h2]; exact e0
  · rw [hb.cell (p := ⟨b, _, none⟩) h2]; exact e1
  · rw [hb.cell (p := ⟨b, _, none⟩) h2]; exact e2
  · rw [hb.cell (p := ⟨b, _, none⟩) h2]; exact e3
  · rw [hb.cell (p := ⟨b, _, none⟩) h2]; exact e4
  · have h7 := h5.keep hz fun b hl _ => hb.block b hl
    exact ⟨h7.1, h7.2.1, fun i hi => by
      obtain ⟨b, off, j1, j2, j3, j4⟩ := h7.2.2 i hi
      exact ⟨b, off, j1, j2, j2, j4⟩⟩
theorem mid_back {q r m : Nat} {w w1 wr : World} (hb : Below w.heap.size w w1) (h : Mid2 q r m w1 wr) : Mid2 q r m w wr := by
  obtain ⟨L, h1, h2⟩ := h
  have hz := hb.size
  exact ⟨L, h1.less fun b hb => by have : b < w.heap.size := hb; show b < w1.heap.size; omega, hb.trans (h2.mono hz)⟩
/-- In the midst of a law on the collector. -/
def MidG (g q m : Nat) (w : World) (s : GS) (wr : World) : Prop := GIn (fun b => b < w.heap.size) wr g q m s ∧ Below w.heap.size w wr
theorem MidG.go {g q m : Nat} {w wr w' : World} {s t : GS} (h : MidG g q m w s wr) (hs : GGo (fun b => b < w.heap.size) g q m t wr w') : MidG g q m w t w' := ⟨hs.1, h.2.trans (hs.2.below (fun _ hb => hb) h.2.size)⟩
theorem MidG.goDrew {g q m : Nat} {w wr w' : World} {s t : GS} (h : MidG g q m w s wr) (hs : GGo (fun b => b < w.heap.size) g q m t wr.drew w') : MidG g q m w t w' := ⟨hs.1, h.2.drew.trans (hs.2.below (fun _ hb => hb) h.2.size)⟩
theorem MidG.tab {g q m : Nat} {w wr : World} {s : GS} (h : MidG g q m w s wr) (hT : Tab w) : Tab wr := hT.below h.2 hT.lt
theorem rnum_any (x : Nat) (hx : x < 18446744073709551616) (w : World) : Calls Tryz.prog 73 #[.int .u64 (x : Int)] w (BoolSame (decide (x % 2 = 1)) w) := by
  have g0 : (0 : Int) ≤ (x : Int) := by omega
  by_cases h : x % 2 = 1
  · have B1 : ((x : Int) % 2 == 1) = true := by rw [beq_iff_eq]; omega
    have HV : Hid (decide (x % 2 = 1) = true) := Lib.hid (decide_eq_true h)
    clear h
    go_enter Tryz.func73, Tryz.ntmps73
    go_wp2_with fail
    go_ret
    exact ⟨ret_bool (by rw [HV.out]), rfl⟩
  · have B1 : ((x : Int) % 2 == 1) = false := by rw [beq_eq_false_iff_ne]; omega
    have HV : Hid (decide (x % 2 = 1) = false) := Lib.hid (decide_eq_false h)
    clear h
    go_enter Tryz.func73, Tryz.ntmps73
    go_wp2_with fail
    go_ret
    exact ⟨ret_bool (by rw [HV.out]), rfl⟩
theorem raddr_any (x : Nat) (hx : x < 18446744073709551616) (w : World) : Calls Tryz.prog 74 #[.int .u64 (x : Int)] w (OneSame (addrW x : Nat) w) := by
  have g0 : (0 : Int) ≤ (x : Int) := by omega
  by_cases h : x % 2 = 1
  · have B1 : ((x : Int) % 2 == 1) = true := by rw [beq_iff_eq]; omega
    have HV : Hid (addrW x = 0) := Lib.hid (by unfold addrW; rw [if_pos (.inl h)])
    clear h
    go_enter Tryz.func74, Tryz.ntmps74
    go_wp2_with fail
    go_ret
    exact ⟨ret_int (by rw [HV.out]; rfl), rfl⟩
  · have B1 : ((x : Int) % 2 == 1) = false := by rw [beq_eq_false_iff_ne]; omega
    by_cases h2 : 2147483647 < x / 2
    · have B2 : decide (2147483647 < (x : Int) / 2) = true := decide_eq_true (by omega)
      have HV : Hid (addrW x = 0) := Lib.hid (by unfold addrW; rw [if_pos (.inr h2)])
      clear h h2
      go_enter Tryz.func74, Tryz.ntmps74
      go_wp2_with fail
      go_ret
      exact ⟨ret_int (by rw [HV.out]; rfl), rfl⟩
    · have B2 : decide (2147483647 < (x : Int) / 2) = false := decide_eq_false (by omega)
      have HV : Hid (((addrW x : Nat) : Int) = (x : Int) / 2) := Lib.hid (by unfold addrW; rw [if_neg (by omega)]; omega)
      have E1 : IntKind.i64.wrap ((x : Int) / 2) = (x : Int) / 2 := by rw [IntKind.wrap_i64]; omega
      clear h h2
      go_enter Tryz.func74, Tryz.ntmps74
      go_wp2_with fail
      go_ret
      exact ⟨ret_int (by rw [HV.out]), rfl⟩
/-- A row of numbers of the call's own. -/
def IntRow (w : World) (S : Nat → Prop) (v : Value) (l : List Nat) : Prop := RowIn w S 3 1 v l.length (nums .i64 l)
def SeenInts (w : World) (A : Option Addr) (l : List Nat) : Prop := ∀ i, i < l.length → ∃ b, A = some ⟨b, 0, none⟩ ∧ b < w.heap.size ∧ w.cell? ⟨b, i, none⟩ = some (.int .i64 (l.getD i 0 : Nat))
theorem IntRow.seen {w : World} {S : Nat → Prop} {v : Value} {l : List Nat} (h : IntRow w S v l) : ∃ A c, v = .slice A l.length c ∧ SeenInts w A l := by
  obtain ⟨A, c, hv, hc⟩ := RowIn.view h
  refine ⟨A, c, hv, fun i hi => ?_⟩
  obtain ⟨g, h1, h2, _, h3⟩ := hc i _ (nums_at .i64 l i hi)
  exact ⟨g, h1, h2, h3⟩
def inB (l : List Nat) (a : Int) : Bool := decide (∃ b ∈ l, (b : Int) = a)
theorem in_any (A : Option Addr) (l : List Nat) (c : Nat) (a : Int) (w : World) (h : SeenInts w A l) (hn : l.length ≤ 9223372036854775807) :
    Calls Tryz.prog 55 #[.slice A l.length c, .int .i64 a] w (BoolSame (inB l a) w) := by
  have HS := Lib.hid h
  clear h
  go_enter Tryz.func55, Tryz.ntmps55
  go_wp2_with fail
  go_loop [5] (fun vi => ∃ i : Nat, i ≤ l.length ∧ vi = .int .i64 i ∧ Hid (∀ j, j < i → ((l.getD j 0 : Nat) : Int) ≠ a)) (fun vi => l.length - (intOf vi).toNat)
  case atStart => exact ⟨0, by omega, by go_num, Lib.hid (fun j hj => by omega)⟩
  case round =>
    obtain ⟨i, hi, rfl, HN⟩ := hrel
    by_cases hil : i < l.length
    · have g2 : decide ((i : Int) < (l.length : Int)) = true := decide_eq_true (by omega)
      obtain ⟨b, rfl, hbl, kb⟩ := HS.out i hil
      by_cases he : ((l.getD i 0 : Nat) : Int) = a
      · have B1 : (((l.getD i 0 : Nat) : Int) == a) = true := by rw [beq_iff_eq]; exact he
        have HV : Hid (inB l a = true) := Lib.hid (decide_eq_true ⟨_, getD_mem hil, he⟩)
        clear he
        generalize l.getD i 0 = x at *
        go_wp2_with fail
        go_ret
        exact ⟨ret_bool (by rw [HV.out]), rfl⟩
      · have B1 : (((l.getD i 0 : Nat) : Int) == a) = false := by rw [beq_eq_false_iff_ne]; exact he
        have HN1 : Hid (∀ j, j < i + 1 → ((l.getD j 0 : Nat) : Int) ≠ a) := Lib.hid (fun j hj => by
          by_cases hji : j = i
          · subst hji; exact he
          · exact HN.out j (by omega))
        clear he
        generalize l.getD i 0 = x at *
        go_wp2_with fail
        go_round
        case rel => exact ⟨i + 1, by omega, by go_num, HN1⟩
        case measure => simp [intOf]; omega
    · have g2 : decide ((i : Int) < (l.length : Int)) = false := decide_eq_false (by omega)
      have HV : Hid (inB l a = false) := Lib.hid (decide_eq_false (by
        rintro ⟨b, hb, he⟩
        obtain ⟨j, hj, hx⟩ := mem_getD hb
        exact HN.out j (by omega) (by rw [hx]; exact he)))
      go_wp2_with fail
      go_ret
      exact ⟨ret_bool (by rw [HV.out]), rfl⟩
def reachW (L : List Ob) (x : Nat) : Nat := if IsIn L (addrW x) then addrW x else 0
theorem find_isIn {words k : Nat} {L : List Ob} {o : Ob} (hl : Lies words 1 L) (h : L[k]? = some o) : IsIn L o.at_ := isIn_of (find_at hl h).1
theorem reaches_any (r : Nat) (S : Nat → Prop) (m : Nat) (L : List Ob) (x : Nat) (w : World) (h : RefAt w r S m L) (hl : Lies m 1 L) (hn : L.length ≤ 65536) (hx : x < 18446744073709551616) :
    Calls Tryz.prog 42 #[.pointer (some ⟨r, 0, none⟩), .int .u64 (x : Int)] w (OneSame (reachW L x : Nat) w) := by
  have HN := Lib.hid (rnum_any x hx w)
  have HA := Lib.hid (raddr_any x hx w)
  have HF := Lib.hid (ref_Find r S m L (addrW x : Nat) w h hn)
  have HL := Lib.hid hl
  clear h hl
  by_cases ho : x % 2 = 1
  · rw [decide_eq_true ho] at HN
    have HV : Hid (reachW L x = 0) := Lib.hid (by
      have h0 : addrW x = 0 := by unfold addrW; rw [if_pos (.inl ho)]
      unfold reachW
      rw [h0]; simp)
    clear ho
    go_enter Tryz.func42, Tryz.ntmps42
    go_wp2_with fail
    refine HN.out.mono ?_
    rintro e w' ⟨rfl, rfl⟩
    go_wp2_with fail
    go_ret
    exact ⟨ret_int (by rw [HV.out]; rfl), rfl⟩
  · rw [decide_eq_false ho] at HN
    have HV : Hid ((∀ (j : Nat) (o : Ob), L[j]? = some o → (o.at_ : Int) ≠ (addrW x : Nat)) → reachW L x = 0) := Lib.hid (fun hno => by
      unfold reachW
      rw [if_neg]
      intro hin
      obtain ⟨o, hob⟩ := isIn_some hin
      obtain ⟨hm, ha⟩ := find_mem hob
      obtain ⟨j, hj, rfl⟩ := List.getElem_of_mem hm
      exact hno j _ (List.getElem?_eq_getElem hj) (by rw [ha]))
    have HV2 : Hid (∀ (k : Nat) (o : Ob), L[k]? = some o → (o.at_ : Int) = (addrW x : Nat) → reachW L x = addrW x) := Lib.hid (fun k o hk ha => by
      unfold reachW
      rw [if_pos]
      have := find_isIn HL.out hk
      rw [show o.at_ = addrW x by omega] at this
      exact this)
    clear ho
    generalize addrW x = ad at *
    go_enter Tryz.func42, Tryz.ntmps42
    go_wp2_with fail
    refine HN.out.mono ?_
    rintro e w' ⟨rfl, rfl⟩
    go_wp2_with fail
    refine HA.out.mono ?_
    rintro e w' ⟨rfl, rfl⟩
    go_wp2_with fail
    refine HF.out.mono ?_
    rintro e w' ⟨rfl, hfi⟩
    rcases hfi with ⟨rfl, hno⟩ | ⟨k, o, rfl, hk, ha⟩
    · have HZ := Lib.hid (HV.out hno)
      clear hno
      go_wp2_with fail
      go_ret
      exact ⟨ret_int (by rw [HZ.out]; rfl), rfl⟩
    · have HZ := Lib.hid (HV2.out k o hk ha)
      have g0 : decide ((k : Int) < 0) = false := decide_eq_false (by omega)
      clear hk ha
      go_wp2_with fail
      refine HA.out.mono ?_
      rintro e w' ⟨rfl, rfl⟩
      go_wp2_with fail
      go_ret
      exact ⟨ret_int (by rw [HZ.out]), rfl⟩
theorem reach_not {L : List Ob} {x : Nat} (h : reachW L x = 0) {words : Nat} (hl : Lies words 1 L) : ¬ IsIn L (addrW x) := fun hin => by
  unfold reachW at h
  rw [if_pos hin] at h
  have := isIn_range hl hin
  omega
theorem reach_is {L : List Ob} {x : Nat} (h : reachW L x ≠ 0) : IsIn L (addrW x) ∧ reachW L x = addrW x := by
  unfold reachW at h ⊢
  by_cases hin : IsIn L (addrW x)
  · exact ⟨hin, by rw [if_pos hin]⟩
  · rw [if_neg hin] at h; exact absurd rfl h
structure Clo (L : List Ob) (roots : List Nat) (ni i : Nat) (out : List Nat) : Prop where
  nd : out.Nodup
  sound : ∀ a ∈ out, Reached L roots a
  roots : ∀ j, j < ni → IsIn L (addrW (roots.getD j 0)) → addrW (roots.getD j 0) ∈ out
  done : ∀ j, j < i → ∀ x ∈ kidsOf L (out.getD j 0), IsIn L (addrW x) → addrW x ∈ out
theorem Clo.add {L : List Ob} {roots : List Nat} {ni i : Nat} {out : List Nat} (h : Clo L roots ni i out) {a : Nat} (ha : Reached L roots a) (hn : a ∉ out) (hi : i ≤ out.length) : Clo L roots ni i (out ++ [a]) := by
  refine ⟨nodup_snoc h.nd hn, fun b hb => ?_, fun j hj hin => List.mem_append.2 (.inl (h.roots j hj hin)), fun j hj x hx hin => ?_⟩
  · rcases List.mem_append.1 hb with hb | hb
    · exact h.sound b hb
    · obtain rfl : b = a := by simpa using hb
      exact ha
  · rw [getD_app, if_pos (by omega)] at hx
    exact List.mem_append.2 (.inl (h.done j hj x hx hin))
theorem Clo.root {L : List Ob} {roots : List Nat} {ni i : Nat} {out : List Nat} (h : Clo L roots ni i out) (hx : IsIn L (addrW (roots.getD ni 0)) → addrW (roots.getD ni 0) ∈ out) : Clo L roots (ni + 1) i out := by
  refine ⟨h.nd, h.sound, fun j hj hin => ?_, h.done⟩
  by_cases hjn : j = ni
  · subst hjn; exact hx hin
  · exact h.roots j (by omega) hin
theorem Clo.next {L : List Ob} {roots : List Nat} {ni i : Nat} {out : List Nat} (h : Clo L roots ni i out) (hx : ∀ x ∈ kidsOf L (out.getD i 0), IsIn L (addrW x) → addrW x ∈ out) : Clo L roots ni (i + 1) out := by
  refine ⟨h.nd, h.sound, h.roots, fun j hj x hxm hin => ?_⟩
  by_cases hjn : j = i
  · subst hjn; exact hx x hxm hin
  · exact h.done j (by omega) x hxm hin
theorem Clo.full {L : List Ob} {roots : List Nat} {out : List Nat} (h : Clo L roots roots.length out.length out) (a : Nat) : a ∈ out ↔ Reached L roots a := by
  refine ⟨h.sound a, fun ha => ?_⟩
  induction ha with
  | root hx hin =>
    obtain ⟨j, hj, rfl⟩ := mem_getD hx
    exact h.roots j hj hin
  | step hb hx hin ih =>
    obtain ⟨j, hj, rfl⟩ := mem_getD ih
    exact h.done j hj _ hx hin
theorem Clo.few {L : List Ob} {roots : List Nat} {ni i : Nat} {out : List Nat} (h : Clo L roots ni i out) (hL : L.length ≤ 65536) : out.length ≤ 65536 := by
  have h2 := nodup_le (m := L.map Ob.at_) h.nd (fun a ha => by
    obtain ⟨o, ho⟩ := isIn_some (h.sound a ha).isIn
    have h2 := find_mem ho
    exact List.mem_map.2 ⟨o, h2.1, h2.2⟩)
  simp only [List.length_map] at h2
  omega
theorem clo_start (L : List Ob) (roots : List Nat) : Clo L roots 0 0 [] := ⟨List.nodup_nil, (fun a h => by cases h), fun j hj => by omega, fun j hj => by omega⟩
/-- The row that is being made. -/
def Grows (B : Nat) (w0 w : World) (v : Value) (l : List Nat) : Prop := IntRow w (From B) v l ∧ Below B w0 w ∧ B ≤ w.heap.size
theorem Grows.below {B : Nat} {w0 w w' : World} {v : Value} {l : List Nat} (h : Grows B w0 w v l) (hb : Below w.heap.size w w') : Grows B w0 w' v l :=
  ⟨RowIn.keep h.1 fun b hl _ => hb.block b hl, h.2.1.trans (hb.mono h.2.2), Nat.le_trans h.2.2 hb.size⟩
theorem Grows.push {B : Nat} {w0 w w' : World} {v v' : Value} {l : List Nat} {x : Nat} {o : Obj} (h : Grows B w0 w v l) (ho : w'.ownsRow 0 3 1 v' (l.length + 1) (nums .i64 l ++ [.int .i64 (x : Int)])) (hg : (w.alloc o).grownBy w' v.ownBlock)
    (hat : v'.ownBlock = v.ownBlock ∨ v'.ownBlock = some (w.alloc o).heap.size) : Grows B w0 w' v' (l ++ [x]) := by
  obtain ⟨h1, h2, h3⟩ := h
  have hba : Below B w0 (w.alloc o) := h2.alloc h3 _
  refine ⟨⟨?_, fun g hgv => ?_⟩, hba.grown hg (by simp; omega) (fun g hg' => h1.2 g hg'), by have := hg.size; simp at this; omega⟩
  · rw [← nums_snoc, List.length_append]
    exact ho
  · rcases hat with hh | hh
    · exact h1.2 g (hh.symm.trans hgv)
    · rw [hh] at hgv
      have := Option.some.inj hgv
      simp at this
      show B ≤ g
      omega
theorem one_src (w : World) (x : Nat) : ∀ t u, [Value.int IntKind.i64 (x : Int)][t]? = some u → (w.alloc (.cells #[.int .i64 (x : Int)] 3)).cell? ((⟨w.heap.size, 0, none⟩ : Addr).add t) = some u := fun t u hu => by
  cases t with
  | zero => rw [show (⟨w.heap.size, 0, none⟩ : Addr).add 0 = ⟨w.heap.size, 0, none⟩ from rfl, Lib.cell_of_heap (heap_alloc_new w _)]; exact hu
  | succ t => simp at hu
theorem one_cell (x : Nat) : ∀ u ∈ [Value.int IntKind.i64 (x : Int)], u.oneCell' = true := by intro u hu; obtain rfl : u = Value.int IntKind.i64 (x : Int) := (by simpa using hu); rfl
theorem at_inj {words p : Nat} {L : List Ob} (hl : Lies words p L) {i j : Nat} {a b : Ob} (h1 : L[i]? = some a) (h2 : L[j]? = some b) (he : a.at_ = b.at_) : i = j := by
  induction L generalizing p i j with
  | nil => cases h1
  | cons o L ih =>
    have hnx : o.next = o.at_ + 1 + o.fs.length := rfl
    cases i with
    | zero =>
      cases j with
      | zero => rfl
      | succ j =>
        obtain rfl : o = a := by simpa using h1
        have := lies_mem words _ L hl.2 b (List.mem_of_getElem? (by simpa using h2))
        omega
    | succ i =>
      cases j with
      | zero =>
        obtain rfl : o = b := by simpa using h2
        have := lies_mem words _ L hl.2 a (List.mem_of_getElem? (by simpa using h1))
        omega
      | succ j => exact congrArg Nat.succ (ih hl.2 (by simpa using h1) (by simpa using h2))
theorem find_same (r : Nat) (S : Nat → Prop) (m : Nat) (L : List Ob) (w : World) (h : RefAt w r S m L) (hl : Lies m 1 L) (hn : L.length ≤ 65536) {k : Nat} {o : Ob} (hk : L[k]? = some o) :
    Calls Tryz.prog 21 #[.pointer (some ⟨r, 0, none⟩), .int .i64 (o.at_ : Int)] w (OneSame (k : Nat) w) := by
  refine (ref_Find r S m L o.at_ w h hn).mono ?_
  rintro e w' ⟨hw, hf⟩
  rcases hf with ⟨_, hno⟩ | ⟨i, o', he, ho', ha⟩
  · exact absurd rfl (hno k o hk)
  · obtain rfl := at_inj hl ho' hk (by omega)
    exact ⟨he, hw⟩
/-- One object, copied into a block of its own. -/
def OneOb (wr wx : World) (p : Nat) (o : Ob) (Fs : Option Addr) (cf : Nat) : Prop := wx.heap[p]? = some (.cells #[.int .i64 (o.at_ : Int), .int .i64 (o.kind : Int), .slice Fs o.fs.length cf] 53 (0, 0)) ∧ Below wr.heap.size wr wx ∧ wr.heap.size ≤ p
theorem inB_nat (l : List Nat) (a : Nat) : inB l (a : Int) = decide (a ∈ l) := by
  unfold inB
  rw [decide_eq_decide]
  exact ⟨fun ⟨b, hb, he⟩ => by rw [show a = b by omega]; exact hb, fun hb => ⟨_, hb, rfl⟩⟩
def Kids (L : List Ob) (roots : List Nat) (n i2 : Nat) (o : Ob) (t : Nat) (out : List Nat) : Prop :=
  Clo L roots n i2 out ∧ i2 < out.length ∧ out.getD i2 0 = o.at_ ∧ ∀ j, j < t → IsIn L (addrW (o.fs.getD j 0)) → addrW (o.fs.getD j 0) ∈ out
theorem Kids.same {L : List Ob} {roots : List Nat} {n i2 : Nat} {o : Ob} {t : Nat} {out : List Nat} (h : Kids L roots n i2 o t out) (hx : IsIn L (addrW (o.fs.getD t 0)) → addrW (o.fs.getD t 0) ∈ out) : Kids L roots n i2 o (t + 1) out :=
  ⟨h.1, h.2.1, h.2.2.1, fun j hj hin => by
    by_cases hjt : j = t
    · subst hjt; exact hx hin
    · exact h.2.2.2 j (by omega) hin⟩
theorem Kids.more {L : List Ob} {roots : List Nat} {n i2 : Nat} {o : Ob} {t a : Nat} {out : List Nat} (h : Kids L roots n i2 o t out) (ha : Reached L roots a) (hn : a ∉ out) (he : addrW (o.fs.getD t 0) = a) : Kids L roots n i2 o (t + 1) (out ++ [a]) := by
  have hl := h.2.1
  refine ⟨h.1.add ha hn (by omega), by simp; omega, by rw [getD_app, if_pos hl]; exact h.2.2.1, fun j hj hin => ?_⟩
  by_cases hjt : j = t
  · subst hjt; rw [he]; simp
  · exact List.mem_append.2 (.inl (h.2.2.2 j (by omega) hin))
def Side (B : Nat) (w0 wq : World) (v : Value) (out : List Nat) (p : Nat) (o : Ob) (Fs : Option Addr) (cf : Nat) : Prop :=
  Grows B w0 wq v out ∧ wq.heap[p]? = some (.cells #[.int .i64 (o.at_ : Int), .int .i64 (o.kind : Int), .slice Fs o.fs.length cf] 53 (0, 0))
theorem Side.push {B : Nat} {w0 w w' : World} {v v' : Value} {l : List Nat} {x p cf : Nat} {Fs : Option Addr} {o : Ob} {ob : Obj} (h : Side B w0 w v l p o Fs cf) (ho : w'.ownsRow 0 3 1 v' (l.length + 1) (nums .i64 l ++ [.int .i64 (x : Int)])) (hg : (w.alloc ob).grownBy w' v.ownBlock)
    (hat : v'.ownBlock = v.ownBlock ∨ v'.ownBlock = some (w.alloc ob).heap.size) : Side B w0 w' v' (l ++ [x]) p o Fs cf := by
  refine ⟨h.1.push ho hg hat, ?_⟩
  have hp := lt_of_heap h.2
  rw [hg.block p (by simp; omega) (fun e => ?_), Below.heap_alloc w _ p hp, h.2]
  obtain ⟨cur, hc⟩ := own_type h.1.1.1 p e.symm
  exact blocks_ne hc h.2 (by decide) rfl
def ClosIs (L : List Ob) (roots : List Nat) (w : World) (e : Ending) (w' : World) : Prop := ∃ v out, e = .returned v ∧ Grows w.heap.size w w' v out ∧ out.Nodup ∧ out.length ≤ 65536 ∧ ∀ a, a ∈ out ↔ Reached L roots a
set_option maxHeartbeats 4000000 in
set_option maxRecDepth 100000 in
theorem closure_any (r : Nat) (S : Nat → Prop) (m : Nat) (L : List Ob) (A : Option Addr) (n c : Nat) (roots : List Nat) (V : Nat → Prop) (w : World) (h : RefAt w r S m L) (hl : Lies m 1 L) (hm : m ≤ 65536) (hx : WordsAt w V A n roots) (hn : n ≤ 1000) (hv : ∀ o ∈ L, ∀ x ∈ o.fs, x < 18446744073709551616) :
    Calls Tryz.prog 20 #[.pointer (some ⟨r, 0, none⟩), .slice A n c] w (ClosIs L roots w) := by
  obtain ⟨i0, hi0, hz0, hz1, hz2⟩ := info_parts infoInt
  have H := Lib.hid h
  have HL := Lib.hid hl
  have hlen := lies_len hl hm
  have HX := Lib.hid hx
  have HV := Lib.hid hv
  have HRL := Lib.hid hx.1
  clear h hl hx hv
  go_enter Tryz.func20, Tryz.ntmps20
  go_wp2_with fail
  have HG0 : Hid (Grows w.heap.size w (w.alloc (.cells #[] 3)) (.slice (some ⟨w.heap.size, 0, none⟩) 0 0) []) := Lib.hid ⟨⟨⟨rfl, .inr ⟨w.heap.size, 0, #[], rfl, Nat.zero_le _, heap_alloc_new w _, Nat.le_refl _, by unfold maxLen; decide, rfl, rfl⟩⟩, fun g hg => by have := Option.some.inj hg; exact Nat.le_of_eq this⟩, below_one _, by simp⟩
  go_loopw [6, 5] (fun vi vv wr => ∃ (i : Nat) (v : Value) (out : List Nat), i ≤ n ∧ vi = .int .i64 i ∧ vv = v ∧ Hid (Grows w.heap.size w wr v out) ∧ Hid (Clo L roots i 0 out)) (fun vi _ _ => n - (intOf vi).toNat)
  case atStart => exact ⟨0, _, [], by omega, by go_num, rfl, HG0, Lib.hid (clo_start L roots)⟩
  case round =>
    obtain ⟨i, vv, out, hin', rfl, rfl, HG, HC⟩ := hrel
    clear HG0
    have hof := HC.out.few hlen
    by_cases hil : i < n
    · have g2 : decide ((i : Int) < (n : Int)) = true := decide_eq_true (by omega)
      have hx2 := HX.out.keep (w' := wr) HG.out.2.1.size fun b hb _ => HG.out.2.1.block b hb
      obtain ⟨b, off, rfl, hbl, _, hc⟩ := hx2.2.2 i hil
      obtain ⟨x, hxd⟩ : ∃ x, roots.getD i 0 = x := ⟨_, rfl⟩
      have hx64 : x < 18446744073709551616 := by rw [← hxd]; exact HX.out.2.1 _ (getD_mem (by rw [HRL.out]; exact hil))
      rw [hxd] at hc
      have HXD := Lib.hid hxd
      have HRC := Lib.hid (reaches_any r S m L x wr (H.out.below HG.out.2.1) HL.out hlen hx64)
      clear hx2 hxd
      by_cases ha0 : reachW L x = 0
      · have HSAME := Lib.hid (HC.out.root (fun hin => absurd hin (by rw [HXD.out]; exact reach_not ha0 HL.out)))
        rw [ha0] at HRC
        clear ha0 hx64
        go_wp2_with fail
        refine HRC.out.mono ?_
        rintro e w' ⟨rfl, rfl⟩
        go_wp2_with fail
        go_roundw
        case rel => exact ⟨i + 1, _, out, by omega, by go_num, rfl, HG, HSAME⟩
        case measure => simp [intOf]; omega
      · obtain ⟨hin, hre⟩ := reach_is ha0
        have hpos := isIn_range HL.out hin
        rw [hre] at HRC
        have g7 : decide (0 < (addrW x : Int)) = true := decide_eq_true (by omega)
        have g8 : 0 < addrW x := by omega
        have HRE : Hid (Reached L roots (addrW x)) := Lib.hid (.root (by rw [← HXD.out]; exact getD_mem (by rw [HRL.out]; omega)) hin)
        obtain ⟨A5, c5, rfl, hs5⟩ := HG.out.1.seen
        have HIN := Lib.hid (in_any A5 out c5 (addrW x : Nat) wr hs5 (by omega))
        have hbb : inB out (addrW x : Nat) = decide (addrW x ∈ out) := by
          unfold inB
          rw [decide_eq_decide]
          exact ⟨fun ⟨b, hb, he⟩ => by rw [show addrW x = b by omega]; exact hb, fun hb => ⟨_, hb, rfl⟩⟩
        rw [hbb] at HIN
        clear hbb hs5
        by_cases hmem : addrW x ∈ out
        · rw [decide_eq_true hmem] at HIN
          have HSAME := Lib.hid (HC.out.root (fun _ => by rw [HXD.out]; exact hmem))
          clear ha0 hmem hin hre hpos hx64
          generalize addrW x = ad at *
          go_wp2_with fail
          refine HRC.out.mono ?_
          rintro e w' ⟨rfl, rfl⟩
          go_wp2_with fail
          refine HIN.out.mono ?_
          rintro e w' ⟨rfl, rfl⟩
          go_wp2_with fail
          go_roundw
          case rel => exact ⟨i + 1, _, out, by omega, by go_num, rfl, HG, HSAME⟩
          case measure => simp [intOf]; omega
        · rw [decide_eq_false hmem] at HIN
          have HMORE := Lib.hid ((HC.out.add HRE.out hmem (Nat.zero_le _)).root (fun _ => by rw [HXD.out]; simp))
          clear ha0 hmem hin hre hpos hx64
          generalize addrW x = ad at *
          have hown : Hid ((wr.alloc (.cells #[.int .i64 (ad : Int)] 3)).ownsRow 0 3 1 (.slice A5 out.length c5) out.length (nums .i64 out)) := Lib.hid (HG.out.1.1.alloc _)
          have hsrc := Lib.hid (one_src wr ad)
          have hone := Lib.hid (one_cell ad)
          go_wp2_with fail
          refine HRC.out.mono ?_
          rintro e w' ⟨rfl, rfl⟩
          go_wp2_with fail
          refine HIN.out.mono ?_
          rintro e w' ⟨rfl, rfl⟩
          go_wp2_with (at_builtin; refine wpList_append_own_at _ rfl (.tmp 33) (.tmp 35) 44 rfl 0 3 i0 _ 1 8 Tryz.underlying44 hi0 hz0 hz1 hz2 rfl (by decide) _ _ _ rfl hown.out ⟨wr.heap.size, 0, none⟩ 1 1 [.int .i64 (ad : Int)] rfl rfl hsrc.out hone.out (by unfold maxLen; omega) (by omega) (Nat.zero_le _) ?_)
          intro v1 w4 hown1 hgr1 hnn1 hat1
          have HG1 := Lib.hid (HG.out.push hown1 hgr1 (by simpa using hat1))
          have HGR := Lib.hid hgr1
          clear hown1 hgr1 hnn1 hat1 hown hsrc hone
          go_wp2_with fail
          go_roundw
          case rel => exact ⟨i + 1, _, _, by omega, by go_num, rfl, HG1, HMORE⟩
          case measure => simp [intOf]; omega
    · have g2 : decide ((i : Int) < (n : Int)) = false := decide_eq_false (by omega)
      obtain rfl : i = n := by omega
      have hof2 := hof
      obtain ⟨A5, c5, rfl, _⟩ := HG.out.1.seen
      have HG0 := HG
      have HC0 := HC
      clear HG HC hof hof2 hin'
      go_wp2_with fail
      go_loopw [8, 5] (fun vi vv wr => ∃ (i2 : Nat) (v : Value) (out : List Nat), i2 ≤ out.length ∧ vi = .int .i64 i2 ∧ vv = v ∧ Hid (Grows w.heap.size w wr v out) ∧ Hid (Clo L roots i i2 out)) (fun vi _ _ => 65537 - (intOf vi).toNat)
      case atStart => exact ⟨0, _, out, by omega, by go_num, rfl, HG0, HC0⟩
      case round =>
        obtain ⟨i2, vv, out, hi2, rfl, rfl, HG, HC⟩ := hrel
        clear HG0 HC0
        have hof := HC.out.few hlen
        obtain ⟨A5, c5, rfl, hs5⟩ := HG.out.1.seen
        by_cases hil : i2 < out.length
        · have g2 : decide ((i2 : Int) < (out.length : Int)) = true := decide_eq_true (by omega)
          have g2' : decide (i2 < out.length) = true := decide_eq_true hil
          obtain ⟨b5, rfl, hb5, kb5⟩ := hs5 i2 hil
          have HRA := Lib.hid (HC.out.sound _ (getD_mem hil))
          obtain ⟨o, hob⟩ := isIn_some HRA.out.isIn
          obtain ⟨hmo, hao⟩ := find_mem hob
          obtain ⟨k, hkl, hk⟩ := List.getElem_of_mem hmo
          have hk : L[k]? = some o := by rw [List.getElem?_eq_getElem hkl, hk]
          obtain ⟨Ar, cr, _, c1w, hs⟩ := H.out.seen
          obtain ⟨g, rfl, hgw, k0w, k1w, Fs, cf, k2w, hfs⟩ := hs k o hk
          have hrw := H.out.lt
          have c1 := (HG.out.2.1.cell (p := ⟨r, 1, none⟩) hrw).trans c1w
          have k0 := (HG.out.2.1.cell (p := ⟨g, k * 3, none⟩) hgw).trans k0w
          have k1 := (HG.out.2.1.cell (p := ⟨g, k * 3 + 1, none⟩) hgw).trans k1w
          have k2 := (HG.out.2.1.cell (p := ⟨g, k * 3 + 2, none⟩) hgw).trans k2w
          have hg : g < wr.heap.size := Nat.lt_of_lt_of_le hgw HG.out.2.1.size
          have hrr : r < wr.heap.size := Nat.lt_of_lt_of_le hrw HG.out.2.1.size
          have HFS := Lib.hid hfs
          have HFD := Lib.hid (fun W (hW : RefAt W r S m L) => find_same r S m L W hW HL.out hlen hk)
          have HOB := Lib.hid hob
          have HKD : Hid (kidsOf L o.at_ = if o.kind = 1 then [] else o.fs) := Lib.hid (by rw [hao]; exact kids_some hob)
          have HAO := Lib.hid hao
          have HVO := Lib.hid (HV.out o hmo)
          have hofl := lies_fields HL.out hm o hmo
          rw [← hao] at kb5
          have g3 : (k : Int) < (L.length : Int) := by omega
          have g4 : (0 : Int) ≤ (k : Int) := by omega
          have g5 : (i2 : Int) < (out.length : Int) := by omega
          have g6 : (0 : Int) ≤ (i2 : Int) := by omega
          clear hs hfs hs5 hk hob hmo hao c1w k0w k1w k2w hrw hgw
          go_upto_region 11 with fail
          go_cut [9] from 43 to 54 (fun v9 wx => ∃ p : Nat, v9 = .pointer (some ⟨p, 0, none⟩) ∧ Hid (OneOb wr wx p o Fs cf))
          case first =>
            have E1 : IntKind.i64.wrap (i2 : Int) = (i2 : Int) := by rw [IntKind.wrap_i64]; omega
            have E2 : IntKind.i64.wrap (k : Int) = (k : Int) := by rw [IntKind.wrap_i64]; omega
            go_region_held3 (fun W => W.cell? ⟨r, 1, none⟩ = some (.slice (some ⟨g, 0, none⟩) L.length cr) ∧ W.cell? ⟨b5, i2, none⟩ = some (.int .i64 (o.at_ : Int)) ∧ W.cell? ⟨g, k * 3, none⟩ = some (.int .i64 (o.at_ : Int)) ∧ W.cell? ⟨g, k * 3 + 1, none⟩ = some (.int .i64 (o.kind : Int)) ∧ W.cell? ⟨g, k * 3 + 2, none⟩ = some (.slice Fs o.fs.length cf)) (go_keep)
              ((go_at_call 21; refine (HFD.out _ ?_).mono ?_; (first | exact ((H.out.below HG.out.2.1).below (below_one _)).drew | exact (H.out.below HG.out.2.1).drew); rintro e w' ⟨rfl, rfl⟩))
            all_goals
              go_wp2_with fail
              go_meet
              exact ⟨_, rfl, Lib.hid ⟨heap_alloc_new wr _, (below_one _).drew, Nat.le_refl _⟩⟩
          case rest =>
            obtain ⟨p, rfl, HOO⟩ := hcut
            have HKI : Hid (Kids L roots i i2 o 0 out) := Lib.hid ⟨HC.out, hil, HAO.out.symm, fun j hj => by omega⟩
            have HSI : Hid (Side w.heap.size w wc (.slice (some ⟨b5, 0, none⟩) out.length c5) out p o Fs cf) := Lib.hid ⟨HG.out.below HOO.out.2.1, HOO.out.1⟩
            have HRO : Hid (Reached L roots o.at_) := Lib.hid (by rw [HAO.out]; exact HRA.out)
            clear HG HC HOO c1 k0 k1 k2 kb5 hg hrr g3 g4 g5 g6 hb5 HAO HRA HFD
            go_wp2_with fail
            go_loopw [10, 5] (fun vt vv wr => ∃ (t : Nat) (v : Value) (out : List Nat), t ≤ o.fs.length ∧ vt = .int .i64 t ∧ vv = v ∧ Hid (Side w.heap.size w wr v out p o Fs cf) ∧ Hid (Kids L roots i i2 o t out)) (fun vt _ _ => o.fs.length - (intOf vt).toNat)
            case atStart => exact ⟨0, _, out, by omega, by go_num, rfl, HSI, HKI⟩
            case round =>
              obtain ⟨t, vv, out, ht, rfl, rfl, HSI2, HKI2⟩ := hrel
              clear HSI HKI
              have hof := HKI2.out.1.few hlen
              have hpb := HSI2.out.2
              have kp1 : wr.cell? ⟨p, 1, none⟩ = some (.int .i64 (o.kind : Int)) := by rw [Lib.cell_of_heap hpb]; rfl
              have kp2 : wr.cell? ⟨p, 2, none⟩ = some (.slice Fs o.fs.length cf) := by rw [Lib.cell_of_heap hpb]; rfl
              have hpl := lt_of_heap hpb
              clear hpb
              by_cases hend : t < o.fs.length ∧ o.kind ≠ 1
              · have htl := hend.1
                have g2 : decide ((t : Int) < (o.fs.length : Int)) = true := decide_eq_true (by omega)
                have g2' : decide (t < o.fs.length) = true := decide_eq_true htl
                have B1 : ((o.kind : Int) != 1) = true := by rw [bne_iff_ne]; have := hend.2; omega
                have hkd := HKD.out
                rw [if_neg hend.2] at hkd
                obtain ⟨x, hxd⟩ : ∃ x, o.fs.getD t 0 = x := ⟨_, rfl⟩
                have hxm : x ∈ o.fs := by rw [← hxd]; exact getD_mem htl
                have hx64 := HVO.out x hxm
                obtain ⟨f, rfl, hfl, kfw⟩ := HFS.out t x (by
                  have h2 : o.fs[t]? = some (o.fs.getD t 0) := by rw [List.getD_eq_getElem?_getD, List.getElem?_eq_getElem htl]; rfl
                  rw [h2, hxd])
                have kf := (HSI2.out.1.2.1.cell (p := ⟨f, t, none⟩) hfl).trans kfw
                have hfr : f < wr.heap.size := Nat.lt_of_lt_of_le hfl HSI2.out.1.2.1.size
                have HXD := Lib.hid hxd
                have HXK : Hid (x ∈ kidsOf L o.at_) := Lib.hid (by rw [hkd]; exact hxm)
                have HG := Lib.hid HSI2.out.1
                have HRC := Lib.hid (reaches_any r S m L x wr (H.out.below HG.out.2.1) HL.out hlen hx64)
                clear hend hxd hxm hkd kfw
                by_cases ha0 : reachW L x = 0
                · have HSAME := Lib.hid (HKI2.out.same (fun hin => absurd hin (by rw [HXD.out]; exact reach_not ha0 HL.out)))
                  rw [ha0] at HRC
                  clear ha0 hx64
                  go_wp2_with fail
                  refine HRC.out.mono ?_
                  rintro e w' ⟨rfl, rfl⟩
                  go_wp2_with fail
                  go_roundw
                  case rel => exact ⟨t + 1, _, out, by omega, by go_num, rfl, HSI2, HSAME⟩
                  case measure => simp [intOf]; omega
                · obtain ⟨hin, hre⟩ := reach_is ha0
                  have hpos := isIn_range HL.out hin
                  rw [hre] at HRC
                  have g7 : decide (0 < (addrW x : Int)) = true := decide_eq_true (by omega)
                  have g8 : 0 < addrW x := by omega
                  have HRE : Hid (Reached L roots (addrW x)) := Lib.hid (.step HRO.out HXK.out hin)
                  obtain ⟨A5, c5, rfl, hs5⟩ := HG.out.1.seen
                  have HIN := Lib.hid (in_any A5 out c5 (addrW x : Nat) wr hs5 (by omega))
                  rw [inB_nat] at HIN
                  clear hs5
                  by_cases hmem : addrW x ∈ out
                  · rw [decide_eq_true hmem] at HIN
                    have HSAME := Lib.hid (HKI2.out.same (fun _ => by rw [HXD.out]; exact hmem))
                    clear ha0 hmem hin hre hpos hx64
                    generalize addrW x = ad at *
                    go_wp2_with fail
                    refine HRC.out.mono ?_
                    rintro e w' ⟨rfl, rfl⟩
                    go_wp2_with fail
                    refine HIN.out.mono ?_
                    rintro e w' ⟨rfl, rfl⟩
                    go_wp2_with fail
                    go_roundw
                    case rel => exact ⟨t + 1, _, out, by omega, by go_num, rfl, HSI2, HSAME⟩
                    case measure => simp [intOf]; omega
                  · rw [decide_eq_false hmem] at HIN
                    have HMORE := Lib.hid (HKI2.out.more HRE.out hmem (by rw [HXD.out]))
                    clear ha0 hmem hin hre hpos hx64
                    generalize addrW x = ad at *
                    have hown : Hid ((wr.alloc (.cells #[.int .i64 (ad : Int)] 3)).ownsRow 0 3 1 (.slice A5 out.length c5) out.length (nums .i64 out)) := Lib.hid (HG.out.1.1.alloc _)
                    have hsrc := Lib.hid (one_src wr ad)
                    have hone := Lib.hid (one_cell ad)
                    go_wp2_with fail
                    refine HRC.out.mono ?_
                    rintro e w' ⟨rfl, rfl⟩
                    go_wp2_with fail
                    refine HIN.out.mono ?_
                    rintro e w' ⟨rfl, rfl⟩
                    go_wp2_with (at_builtin; refine wpList_append_own_at _ rfl (.tmp 82) (.tmp 84) 44 rfl 0 3 i0 _ 1 8 Tryz.underlying44 hi0 hz0 hz1 hz2 rfl (by decide) _ _ _ rfl hown.out ⟨wr.heap.size, 0, none⟩ 1 1 [.int .i64 (ad : Int)] rfl rfl hsrc.out hone.out (by unfold maxLen; omega) (by omega) (Nat.zero_le _) ?_)
                    intro v1 w4 hown1 hgr1 hnn1 hat1
                    have HS1 := Lib.hid (HSI2.out.push hown1 hgr1 (by simpa using hat1))
                    clear hown1 hgr1 hnn1 hat1 hown hsrc hone
                    go_wp2_with fail
                    go_roundw
                    case rel => exact ⟨t + 1, _, _, by omega, by go_num, rfl, HS1, HMORE⟩
                    case measure => simp [intOf]; omega
              · have hce : o.fs.length ≤ t ∨ (t < o.fs.length ∧ o.kind = 1) := by
                  by_cases h1 : t < o.fs.length
                  · right
                    refine ⟨h1, ?_⟩
                    by_cases h2 : o.kind = 1
                    · exact h2
                    · exact absurd ⟨h1, h2⟩ hend
                  · left; omega
                have HC2 : Hid (Clo L roots i (i2 + 1) out) := Lib.hid (HKI2.out.1.next (by
                  rw [HKI2.out.2.2.1, HKD.out]
                  intro y hy hin
                  rcases hce with h1 | ⟨h1, h2⟩
                  · split at hy
                    · cases hy
                    · obtain ⟨j, hj, rfl⟩ := mem_getD hy
                      exact HKI2.out.2.2.2 j (by omega) hin
                  · rw [if_pos h2] at hy; cases hy))
                have hi3 := HKI2.out.2.1
                have HG2 := Lib.hid HSI2.out.1
                obtain ⟨A6, c6, rfl, _⟩ := HG2.out.1.seen
                rcases hce with h1 | ⟨h1, h2⟩
                · have g2 : decide ((t : Int) < (o.fs.length : Int)) = false := decide_eq_false (by omega)
                  have g2' : decide (t < o.fs.length) = false := decide_eq_false (by omega)
                  clear hend
                  go_wp2_with fail
                  go_roundw
                  case rel => exact ⟨i2 + 1, _, out, by omega, by go_num, rfl, HG2, HC2⟩
                  case measure => simp [intOf]; omega
                · have g2 : decide ((t : Int) < (o.fs.length : Int)) = true := decide_eq_true (by omega)
                  have g2' : decide (t < o.fs.length) = true := decide_eq_true h1
                  have B1 : ((o.kind : Int) != 1) = false := by rw [h2]; rfl
                  clear hend
                  go_wp2_with fail
                  go_roundw
                  case rel => exact ⟨i2 + 1, _, out, by omega, by go_num, rfl, HG2, HC2⟩
                  case measure => simp [intOf]; omega
        · have g2 : decide ((i2 : Int) < (out.length : Int)) = false := decide_eq_false (by omega)
          have g2' : decide (i2 < out.length) = false := decide_eq_false hil
          obtain rfl : i2 = out.length := by omega
          have HCI : Hid (ClosIs L roots w (.returned (.slice A5 out.length c5)) wr) := Lib.hid ⟨_, out, rfl, HG.out, HC.out.nd, hof, by
            have := HC.out
            rw [← HRL.out] at this
            exact this.full⟩
          go_wp2_with fail
          go_ret
          exact HCI.out
def Owns (F : Nat → Prop) (v : Value) (b : Nat) : Prop := F b ∨ v.ownBlock = some b
/-- In the midst of a cycle: the collector, beside what stands and the row of what was laid. -/
def CState (F : Nat → Prop) (g q m : Nat) (w wr : World) (v : Value) (D : List Nat) (s : GS) : Prop := GIn (Owns F v) wr g q m s ∧ IntRow wr (From w.heap.size) v D ∧ Stands F w wr ∧ w.heap.size ≤ wr.heap.size ∧ ∀ b, F b → b < w.heap.size
theorem CState.go {F : Nat → Prop} {g q m : Nat} {w wr w' : World} {v : Value} {D : List Nat} {s t : GS} (h : CState F g q m w wr v D s) (hs : GGo (Owns F v) g q m t wr w') : CState F g q m w w' v D t := by
  obtain ⟨h1, h2, h3, h4, h5⟩ := h
  refine ⟨hs.1, ⟨own_keep h2.1 fun b hb => hs.2.block b (World.ownsRow.lt h2.1 b hb).2 fun hn => hn (.inr hb), h2.2⟩, h3.trans (hs.2.mono fun b hn hF => hn (.inl hF)), Nat.le_trans h4 hs.2.size, h5⟩
theorem CState.drew {F : Nat → Prop} {g q m : Nat} {w wr : World} {v : Value} {D : List Nat} {s : GS} (h : CState F g q m w wr v D s) : CState F g q m w wr.drew v D s := by
  obtain ⟨h1, h2, h3, h4, h5⟩ := h
  exact ⟨h1.drew, RowIn.keep h2 fun _ _ _ => rfl, h3.drew, h4, h5⟩
theorem CState.push {F : Nat → Prop} {g q m : Nat} {w wr w' : World} {v v' : Value} {D : List Nat} {s : GS} {x : Nat} {ob : Obj} (h : CState F g q m w wr v D s) (ho : w'.ownsRow 0 3 1 v' (D.length + 1) (nums .i64 D ++ [.int .i64 (x : Int)])) (hg : (wr.alloc ob).grownBy w' v.ownBlock)
    (hat : v'.ownBlock = v.ownBlock ∨ v'.ownBlock = some (wr.alloc ob).heap.size) : CState F g q m w w' v' (D ++ [x]) s := by
  obtain ⟨⟨U, u1, u2, u3, u4⟩, h2, h3, h4, h5⟩ := h
  have hz : wr.heap.size + 1 ≤ w'.heap.size := by have := hg.size; simpa using this
  have hb : ∀ b, b < wr.heap.size → v.ownBlock ≠ some b → w'.heap[b]? = wr.heap[b]? := fun b hl hn => by
    rw [hg.block b (by simp; omega) (fun e => hn e.symm), Below.heap_alloc wr _ b hl]
  refine ⟨⟨U, u1.keep (by omega) fun b hl hU => hb b hl fun e => u2 b hU (.inr e), fun b hU hF => ?_, fun b hU => by have := u3 b hU; omega, fun b hF => ?_⟩, ⟨?_, fun b hbv => ?_⟩, ?_, by omega, h5⟩
  · rcases hF with hF | hF
    · exact u2 b hU (.inl hF)
    · rcases hat with hh | hh
      · exact u2 b hU (.inr (hh.symm.trans hF))
      · rw [hh] at hF
        have := Option.some.inj hF
        have := u3 b hU
        simp at *
        omega
  · rcases hF with hF | hF
    · have := u4 b (.inl hF); omega
    · exact (World.ownsRow.lt ho b hF).2
  · rw [← nums_snoc, List.length_append]
    exact ho
  · rcases hat with hh | hh
    · exact h2.2 b (hh.symm.trans hbv)
    · rw [hh] at hbv
      have := Option.some.inj hbv
      simp at this
      show w.heap.size ≤ b
      omega
  · refine ⟨hg.os.trans h3.os, hg.tape.trans h3.tape, hg.output.trans h3.output, by omega, fun b hl hn => ?_⟩
    rw [hb b (by omega) ?_]
    · exact h3.block b hl hn
    · intro e
      have : w.heap.size ≤ b := h2.2 b e
      omega
theorem CState.tab {F : Nat → Prop} {g q m : Nat} {w wr : World} {v : Value} {D : List Nat} {s : GS} (h : CState F g q m w wr v D s) (hT : Tab w) (hF : F 0) : Tab wr := hT.turned h.2.2.1 fun hn => hn hF
def CycIs (F : Nat → Prop) (g q m : Nat) (L : List Ob) (rs : List Nat) (w : World) (e : Ending) (w' : World) : Prop := ∃ v D t, e = .returned v ∧ CState F g q m w w' v D t ∧ KInv L rs D t ∧ t.ph = 0 ∧ D.length ≤ 200
def kindN (L : List Ob) (a : Nat) : Nat := match findOb L a with
  | some o => o.kind
  | none => 0
theorem kindN_of {L : List Ob} {a : Nat} (h : IsIn L a) : hKind L (a : Int) = (kindN L a, 0) := by
  obtain ⟨o, ho⟩ := isIn_some h
  rw [hKind_at ho]
  unfold kindN
  rw [ho]
theorem kindN_same {L M : List Ob} {a : Nat} (h : kindOf M a = kindOf L a) : kindN M a = kindN L a := by
  unfold kindOf at h
  unfold kindN
  cases h1 : findOb M a <;> cases h2 : findOb L a <;> rw [h1, h2] at h <;> simp_all
theorem map_take_snoc {l : List Nat} {i : Nat} (f : Nat → Nat) (h : i < l.length) : (l.take i).map f ++ [f (l.getD i 0)] = (l.take (i + 1)).map f := by
  rw [take_snoc_get h, List.map_append]; rfl
theorem WordsAt.lift {w w' : World} {V F : Nat → Prop} {A : Option Addr} {n : Nat} {xs : List Nat} (h : WordsAt w V A n xs) (hb : Below w.heap.size w w') (hF : ∀ b, b < w.heap.size → F b) : WordsAt w' F A n xs :=
  ⟨h.1, h.2.1, fun i hi => by
    obtain ⟨b, off, e1, e2, _, e4⟩ := h.2.2 i hi
    exact ⟨b, off, e1, Nat.lt_of_lt_of_le e2 hb.size, hF b e2, (hb.cell (p := ⟨b, off + i, none⟩) e2).trans e4⟩⟩
theorem Script3.lift {w w' : World} {V F : Nat → Prop} {A : Option Addr} {n : Nat} (h : Script3 w V A n) (hb : Below w.heap.size w w') (hF : ∀ b, b < w.heap.size → F b) : Script3 w' F A n := fun i hi => by
  obtain ⟨s, b, off, h1, h2, h3, e0, e1, e2, e3, e4, h4, h5, h6⟩ := h i hi
  refine ⟨s, b, off, h1, Nat.lt_of_lt_of_le h2 hb.size, hF b h2, ?_, ?_, ?_, ?_, ?_, h4, h5.lift hb hF, h6⟩
  · rw [hb.cell (p := ⟨b, _, none⟩) h2]; exact e0
  · rw [hb.cell (p := ⟨b, _, none⟩) h2]; exact e1
  · rw [hb.cell (p := ⟨b, _, none⟩) h2]; exact e2
  · rw [hb.cell (p := ⟨b, _, none⟩) h2]; exact e3
  · rw [hb.cell (p := ⟨b, _, none⟩) h2]; exact e4
theorem IntRow.keep2 {w w' : World} {S : Nat → Prop} {v : Value} {l : List Nat} (h : IntRow w S v l) (hk : ∀ b, v.ownBlock = some b → b < w.heap.size → w'.heap[b]? = w.heap[b]?) : IntRow w' S v l :=
  ⟨own_keep h.1 fun b hb => hk b hb (World.ownsRow.lt h.1 b hb).2, h.2⟩
/-- What the law has laid up ahead of the cycle: the heap, and two rows. -/
structure Ahead (q m : Nat) (w w4 : World) (L : List Ob) (vh : Value) (held : List Nat) (vk : Value) (kinds : List Nat) : Prop where
  heap : ∃ S, HAt w4 q S m L ∧ (∀ b, S b → ¬ b < w.heap.size) ∧ (∀ b, S b → vh.ownBlock ≠ some b) ∧ ∀ b, S b → vk.ownBlock ≠ some b
  below : Below w.heap.size w w4
  held : IntRow w4 (From w.heap.size) vh held
  kinds : IntRow w4 (From w.heap.size) vk kinds
def FAhead (w : World) (vh vk : Value) (b : Nat) : Prop := b < w.heap.size ∨ vh.ownBlock = some b ∨ vk.ownBlock = some b
theorem Ahead.new {q m : Nat} {w w4 : World} {L : List Ob} {vh vk : Value} {held kinds : List Nat} (h : Ahead q m w w4 L vh held vk kinds) (hm : m ≤ 65536) : Calls Tryz.prog 29 #[.pointer (some ⟨q, 0, none⟩)] w4 (VNew (FAhead w vh vk) q m L w4) := by
  obtain ⟨S, h1, h2, h3, h4⟩ := h.heap
  refine v_New _ q m S L w4 h1 hm (fun b hS hF => ?_) (fun b hF => ?_)
  · rcases hF with hF | hF | hF
    · exact h2 b hS hF
    · exact h3 b hS hF
    · exact h4 b hS hF
  · rcases hF with hF | hF | hF
    · exact Nat.lt_of_lt_of_le hF h.below.size
    · exact (World.ownsRow.lt h.held.1 b hF).2
    · exact (World.ownsRow.lt h.kinds.1 b hF).2
def Aliv (L0 : List Ob) (roots D : List Nat) (a : Nat) : Prop := Reached L0 roots a ∨ a ∈ D
theorem mem_set_or2 {l : List Nat} {i x y : Nat} (h : y ∈ l.set i x) : y ∈ l ∨ y = x := List.mem_or_eq_of_mem_set h
theorem odd_no2 {words x : Nat} {L : List Ob} (hl : Lies words 1 L) (h : x % 2 = 1) : ¬ IsIn L (addrW x) := fun hin => by
  have : addrW x = 0 := by unfold addrW; rw [if_pos (.inl h)]
  rw [this] at hin
  have := isIn_range hl hin
  omega
structure FInv (L0 : List Ob) (roots D : List Nat) (s : GS) : Prop where
  marked : ∀ a, a ∈ s.G ∨ a ∈ s.B → Aliv L0 roots D a
  fields : s.ph = 1 → ∀ a, Aliv L0 roots D a → ∀ x ∈ kidsOf s.L a, IsIn s.L (addrW x) → Aliv L0 roots D (addrW x)
  passed : s.ph = 2 → ∀ a, IsIn s.L a → a < s.pos → Aliv L0 roots D a
  ended : s.ph = 0 → ∀ a, IsIn s.L a → Aliv L0 roots D a
theorem FInv.begin {words : Nat} {s : GS} (hi : GInv words s) (roots : List Nat) (h0 : s.ph = 0) : FInv s.L roots [] (s.begin roots).2 := by
  unfold GS.begin
  rw [if_pos h0]
  obtain ⟨h1, h2, h3, h4⟩ := shades_same (GS.mk s.L 1 s.G s.B s.pos) roots
  refine ⟨fun a ha => ?_, fun _ a ha x hx hin => ?_, fun hp => ?_, fun hp => ?_⟩
  · rcases ha with ha | ha
    · rcases shades_only ha with hg | ⟨x, hx, rfl, hin⟩
      · have hg : a ∈ s.G := hg
        rw [hi.gnil (by omega)] at hg
        cases hg
      · exact .inl (.root hx hin)
    · rw [h3] at ha
      have ha : a ∈ s.B := ha
      rw [hi.bnil h0] at ha
      cases ha
  · have h1 : ((GS.mk s.L 1 s.G s.B s.pos).shades roots).L = s.L := h1
    rw [h1] at hx hin
    rcases ha with ha | ha
    · exact .inl (.step ha hx hin)
    · cases ha
  · have hp : ((GS.mk s.L 1 s.G s.B s.pos).shades roots).ph = 2 := hp
    rw [h2] at hp
    cases hp
  · have hp : ((GS.mk s.L 1 s.G s.B s.pos).shades roots).ph = 0 := hp
    rw [h2] at hp
    cases hp
/-- Words are shaded whose objects are kept. -/
theorem FInv.shades {L0 : List Ob} {roots D : List Nat} {s : GS} (h : FInv L0 roots D s) (xs : List Nat) (hx : ∀ x ∈ xs, IsIn s.L (addrW x) → Aliv L0 roots D (addrW x)) : FInv L0 roots D (s.shades xs) := by
  obtain ⟨h1, h2, h3, h4⟩ := shades_same s xs
  refine ⟨fun a ha => ?_, fun hp => ?_, fun hp => ?_, fun hp => ?_⟩
  · rcases ha with ha | ha
    · rcases shades_only ha with hg | ⟨x, hxm, rfl, hin⟩
      · exact h.marked a (.inl hg)
      · exact hx x hxm hin
    · rw [h3] at ha
      exact h.marked a (.inr ha)
  · rw [h1]; rw [h2] at hp; exact h.fields hp
  · rw [h1, h4]; rw [h2] at hp; exact h.passed hp
  · rw [h1]; rw [h2] at hp; exact h.ended hp
theorem FInv.black {L0 : List Ob} {roots D : List Nat} {s : GS} (h : FInv L0 roots D s) {a : Nat} (ha : a ∈ s.G) : FInv L0 roots D (s.black a) := by
  refine ⟨fun b hb => ?_, h.fields, h.passed, h.ended⟩
  rcases hb with hb | hb
  · exact h.marked b (.inl (mem_without.1 hb).1)
  · have hb : b ∈ s.B ++ [a] := hb
    rcases List.mem_append.1 hb with hb | hb
    · exact h.marked b (.inr hb)
    · obtain rfl : b = a := by simpa using hb
      exact h.marked b (.inl ha)
theorem FInv.step {words : Nat} {L0 : List Ob} {roots D : List Nat} {s : GS} (h : FInv L0 roots D s) (hi : GInv words s) : FInv L0 roots D s.step.2 := by
  unfold GS.step
  by_cases h1 : s.ph = 1
  · rw [if_pos h1]
    by_cases hg : s.G = []
    · rw [if_pos hg]
      exact ⟨h.marked, fun hp => absurd (show (2 : Nat) = 1 from hp) (by decide), (fun _ a _ ha => absurd (show a < 0 from ha) (by omega)), fun hp => absurd (show (2 : Nat) = 0 from hp) (by decide)⟩
    · rw [if_neg hg]
      have hl := (least_spec hg).1
      exact (h.black hl).shades _ (h.fields h1 _ (h.marked _ (.inl hl)))
  · rw [if_neg h1]
    by_cases h2 : s.ph = 2
    · rw [if_pos h2]
      rcases next_facts hi.lies (Nat.le_refl _) s.pos with ⟨k1, k2⟩ | ⟨k1, k2, k3, k4⟩
      · rw [if_pos k1]
        exact ⟨h.marked, fun hp => absurd (show (0 : Nat) = 1 from hp) (by decide), fun hp => absurd (show (0 : Nat) = 2 from hp) (by decide), fun _ a ha => h.passed h2 a ha (k2 a ha)⟩
      · rw [if_neg k3]
        generalize nextOb s.L s.pos = b at *
        obtain ⟨d1, d2⟩ := drop_facts hi.lies k1
        have hn1 : (s.sweep b).ph ≠ 1 := h1
        have hn0 : (s.sweep b).ph ≠ 0 := by
          show s.ph ≠ 0
          omega
        refine ⟨fun a ha => ?_, fun hp => absurd hp hn1, fun _ a ha hap => ?_, fun hp => absurd hp hn0⟩
        · rcases ha with ha | ha
          · exact h.marked a (.inl ha)
          · exact h.marked a (.inr (mem_without.1 ha).1)
        · have ha : IsIn (if s.White b then dropOb s.L b else s.L) a := ha
          have hap : a < b + 1 := hap
          by_cases hab : a = b
          · subst hab
            split at ha
            · unfold IsIn at ha
              rw [d2, if_pos rfl] at ha
              cases ha
            · rename_i hw
              by_cases hg : a ∈ s.G
              · exact h.marked a (.inl hg)
              · by_cases hb : a ∈ s.B
                · exact h.marked a (.inr hb)
                · exact absurd ⟨ha, hg, hb⟩ hw
          · have ha : IsIn s.L a := by
              split at ha
              · unfold IsIn at ha
                rw [d2, if_neg hab] at ha
                exact ha
              · exact ha
            refine h.passed h2 a ha (Nat.lt_of_not_le fun hle => ?_)
            have := k4 a ha hle
            omega
    · rw [if_neg h2]; exact h
theorem one_word {words : Nat} {L : List Ob} (hl : Lies words 1 L) : ¬ IsIn L (addrW 1) := odd_no2 hl (by decide)
theorem FInv.laidIn {words : Nat} {L0 : List Ob} {roots D : List Nat} {s : GS} (h : FInv L0 roots D s) {L' : List Ob} {a kk nn : Nat} (hl : Lies words 1 L') (hf : ∀ c, findOb L' c = if c = a then some (newOb a kk nn) else findOb s.L c) : FInv L0 roots (D ++ [a]) (s.laid L' a) := by
  have hup : ∀ b, Aliv L0 roots D b → Aliv L0 roots (D ++ [a]) b := fun b hb => hb.imp id fun hx => List.mem_append.2 (.inl hx)
  have hself : Aliv L0 roots (D ++ [a]) a := .inr (by simp)
  have hdown : ∀ b, Aliv L0 roots (D ++ [a]) b → b ≠ a → Aliv L0 roots D b := fun b hb hne => by
    rcases hb with hb | hb
    · exact .inl hb
    · rcases List.mem_append.1 hb with hb | hb
      · exact .inr hb
      · exact absurd (by simpa using hb) hne
  have hin : ∀ b, IsIn L' b → b ≠ a → IsIn s.L b := fun b hb hne => by
    unfold IsIn at hb ⊢
    rw [hf, if_neg hne] at hb
    exact hb
  refine ⟨fun b hb => ?_, fun hp b hb x hx hxi => ?_, fun hp b hb hbp => ?_, fun hp b hb => ?_⟩
  · rcases hb with hb | hb
    · exact hup b (h.marked b (.inl hb))
    · have hb : b ∈ (if s.ph = 1 ∨ (s.ph = 2 ∧ s.pos ≤ a) then s.B ++ [a] else s.B) := hb
      split at hb
      · rcases List.mem_append.1 hb with hb | hb
        · exact hup b (h.marked b (.inr hb))
        · obtain rfl : b = a := by simpa using hb
          exact hself
      · exact hup b (h.marked b (.inr hb))
  · have hx : x ∈ kidsOf L' b := hx
    have hxi : IsIn L' (addrW x) := hxi
    have hp : s.ph = 1 := hp
    obtain ⟨o, ho, hk, hxo⟩ := kids_string hx
    rw [hf] at ho
    by_cases hba : b = a
    · rw [if_pos hba] at ho
      obtain rfl : newOb a kk nn = o := by simpa using ho
      have := List.eq_of_mem_replicate (show x ∈ List.replicate nn 1 from hxo)
      rw [this] at hxi
      exact absurd hxi (one_word hl)
    · rw [if_neg hba] at ho
      by_cases hxa : addrW x = a
      · rw [hxa]; exact hself
      · exact hup _ (h.fields hp b (hdown b hb hba) x (by rw [kids_of ho hk]; exact hxo) (hin _ hxi hxa))
  · have hb : IsIn L' b := hb
    by_cases hba : b = a
    · rw [hba]; exact hself
    · exact hup b (h.passed hp b (hin b hb hba) hbp)
  · have hb : IsIn L' b := hb
    by_cases hba : b = a
    · rw [hba]; exact hself
    · exact hup b (h.ended hp b (hin b hb hba))
theorem FInv.alloc {words : Nat} {L0 : List Ob} {roots D : List Nat} {s : GS} (h : FInv L0 roots D s) (hi : GInv words s) (k n : Int) : FInv L0 roots (laidBy words s k n D) (s.alloc words k n).2.2 := by
  unfold laidBy
  rcases alloc_facts k n hi.lies with ⟨e, he, ha⟩ | ⟨a, kk, nn, L', ha, _, _, _, _, hl, _, hf, _⟩
  · have hv : s.alloc words k n = (0, e, s) := by unfold GS.alloc; rw [ha, if_neg he]
    rw [hv, if_neg he]; exact h
  · have hv : s.alloc words k n = ((a : Int), 0, s.laid L' a) := by unfold GS.alloc; rw [ha, if_pos rfl]; rfl
    rw [hv, if_pos rfl]
    exact h.laidIn hl hf
theorem FInv.write {words : Nat} {L0 : List Ob} {roots D : List Nat} {s : GS} (h : FInv L0 roots D s) (hi : GInv words s) (a i : Int) (x : Nat) (hx : x % 2 = 1) (hv : ∀ n : Nat, (n : Int) = a → Aliv L0 roots D n) : FInv L0 roots D (s.write a i x).2 := by
  unfold GS.write
  by_cases he : (hGet s.L a i).2 = 0
  · rw [if_pos he]
    obtain ⟨n, j, o, rfl, rfl, ho, hj, hg, hs, hk⟩ := hGet_some he
    rw [hs, hg]
    have hvn := hv n rfl
    have hb : FInv L0 roots D (s.barrier (n : Int) (o.fs.getD j 0)) := by
      unfold GS.barrier; split
      · rename_i hp
        rw [hk] at hp
        refine h.shades [o.fs.getD j 0] fun y hy => ?_
        obtain rfl : y = o.fs.getD j 0 := by simpa using hy
        exact h.fields hp.1 n hvn _ (by rw [kids_of ho hp.2]; exact getD_mem hj)
      · exact h
    obtain ⟨b1, b2, b3, b4⟩ := barrier_same s (n : Int) (o.fs.getD j 0)
    generalize s.barrier (n : Int) (o.fs.getD j 0) = t at *
    have hfind := fun c => find_set s.L n j x c
    have hisin : ∀ c, IsIn (setOb s.L n j x) c ↔ IsIn s.L c := fun c => by
      unfold IsIn; rw [hfind]
      split
      · rename_i hc; subst hc; rw [ho]; simp
      · exact Iff.rfl
    refine ⟨hb.marked, fun hp c hc y hy hin => ?_, fun hp c hc => hb.passed hp c (by rw [b1]; exact (hisin c).1 hc), fun hp c hc => hb.ended hp c (by rw [b1]; exact (hisin c).1 hc)⟩
    have hin : IsIn (setOb s.L n j x) (addrW y) := hin
    have hin3 := (hisin _).1 hin
    clear hin
    have hy : y ∈ kidsOf (setOb s.L n j x) c := hy
    obtain ⟨o1, e1, hk1, hy1⟩ := kids_string hy
    rw [hfind] at e1
    have hp : t.ph = 1 := hp
    by_cases hcn : c = n
    · subst hcn
      rw [if_pos rfl, ho] at e1
      obtain rfl : o.put j x = o1 := by simpa using e1
      rcases mem_set_or2 (show y ∈ o.fs.set j x from hy1) with hy2 | rfl
      · exact hb.fields hp c hc y (by rw [b1, kids_of ho hk1]; exact hy2) (by rw [b1]; exact hin3)
      · exact absurd hin3 (odd_no2 hi.lies hx)
    · rw [if_neg hcn] at e1
      exact hb.fields hp c hc y (by rw [b1, kids_of e1 hk1]; exact hy1) (by rw [b1]; exact hin3)
  · rw [if_neg he]; exact h
theorem FInv.run {words : Nat} {L0 : List Ob} {roots D : List Nat} {s : GS} (h : FInv L0 roots D s) (hi : GInv words s) (k : Nat) : FInv L0 roots D (s.run k) := by
  induction k with
  | zero => exact h
  | succ k ih => exact ih.step (hi.run k)
theorem odd_word (x : Nat) (hx : x < 18446744073709551616) : ∃ y : Nat, y % 2 = 1 ∧ y < 18446744073709551616 ∧ bits BinOp.or IntKind.u64 (x : Int) 1 = (y : Int) := by
  refine ⟨x ||| 1, ?_, Nat.or_lt_two_pow (n := 64) hx (by decide), bits_or_u64_nat x 1 hx (by decide)⟩
  rw [Nat.or_mod_two_eq_one]
  exact .inr rfl
theorem nums_app (l m : List Nat) : nums .i64 l ++ nums .i64 m = nums .i64 (l ++ m) := by simp [nums]
theorem IntRow.at_ {w : World} {S : Nat → Prop} {A : Option Addr} {c : Nat} {l : List Nat} (h : IntRow w S (.slice A l.length c) l) : SeenInts w A l := by
  obtain ⟨A', c', he, hs⟩ := h.seen
  obtain ⟨rfl, _, rfl⟩ := Value.slice.inj he
  exact hs
theorem Grows.many {B : Nat} {w0 w w' : World} {v v' : Value} {l m : List Nat} (h : Grows B w0 w v l) (ho : w'.ownsRow 0 3 1 v' (l.length + m.length) (nums .i64 l ++ nums .i64 m)) (hg : w.grownBy w' v.ownBlock)
    (hat : v'.ownBlock = v.ownBlock ∨ v'.ownBlock = some w.heap.size) : Grows B w0 w' v' (l ++ m) := by
  obtain ⟨h1, h2, h3⟩ := h
  refine ⟨⟨?_, fun g hgv => ?_⟩, h2.grown hg h3 (fun g hg' => h1.2 g hg'), Nat.le_trans h3 hg.size⟩
  · rw [← nums_app, List.length_append]
    exact ho
  · rcases hat with hh | hh
    · exact h1.2 g (hh.symm.trans hgv)
    · rw [hh] at hgv
      have := Option.some.inj hgv
      show B ≤ g
      omega
theorem append_row {B : Nat} {w0 w : World} {ops : Array Oper} {rest : List Oper} {o : Oper} {a : Act} {Q : Exit → Act → World → Prop} (hgd : o.guard = none) (s x : Operand)
    (ho : o.op = .call { callee := .builtin .append, args := #[s, x], argTypes := #[44, 44] }) (v u : Value) (l1 l2 : List Nat) (hs : a.eval s = v) (hx : a.eval x = u) (hg : Grows B w0 w v l1) (hu : ∃ S, IntRow w S u l2)
    (hn : l1.length + l2.length ≤ 1000000) (h : ∀ v' w', Grows B w0 w' v' (l1 ++ l2) → wpList Tryz.prog ops Q rest (a.put o.dst v') w') : wpList Tryz.prog ops Q (o :: rest) a w := by
  obtain ⟨i0, hi0, hz0, hz1, hz2⟩ := info_parts infoInt
  obtain ⟨S, hu1, hu2⟩ := hu
  have hll : (nums IntKind.i64 l2).length = l2.length := by simp [nums]
  have hone : ∀ z ∈ nums IntKind.i64 l2, z.oneCell' = true := fun z hz => by
    simp only [nums, List.mem_map] at hz
    obtain ⟨y, _, rfl⟩ := hz
    rfl
  rcases hu1.2 with ⟨h1, h2⟩ | ⟨g, k, cs, h1, _⟩
  · subst h1
    have hl0 : l2 = [] := List.length_eq_zero_iff.1 h2
    subst hl0
    refine wpList_append_own_none hgd s x 44 ho 0 3 i0 1 Tryz.underlying44 hi0 v _ _ hs hg.1.1 hx ?_
    have := h v w (by rw [List.append_nil]; exact hg)
    exact this
  · subst h1
    refine wpList_append_own_at w hgd s x 44 ho 0 3 i0 _ 1 8 Tryz.underlying44 hi0 hz0 hz1 hz2 rfl (by decide) v _ _ hs hg.1.1 ⟨g, 0, none⟩ l2.length k (nums .i64 l2) hx (by rw [hll]; omega) (hu1.cells (g := g) rfl) hone (by unfold maxLen; omega) (by omega) (Nat.zero_le _) ?_
    intro v' w' h3 h4 _ h6
    exact h v' w' (hg.many h3 h4 h6)
theorem CState.start {F : Nat → Prop} {g q m : Nat} {w w6 : World} {t : GS} (h : GGo F g q m t w w6) (hF : ∀ b, F b → b < w.heap.size) : CState F g q m w (w6.alloc (.cells #[] 3)) (.slice (some ⟨w6.heap.size, 0, none⟩) 0 0) [] t := by
  refine ⟨h.1.more (below_one _) (fun b hb => hb.imp id fun he => by
    have := Option.some.inj he
    have : w6.heap.size = b := this
    simp; omega), ⟨⟨rfl, .inr ⟨w6.heap.size, 0, #[], rfl, Nat.zero_le _, heap_alloc_new w6 _, Nat.le_refl _, by unfold maxLen; decide, rfl, rfl⟩⟩, fun g hg => by
      have := Option.some.inj hg
      have : w6.heap.size = g := this
      have := h.2.size
      show w.heap.size ≤ g
      omega⟩, h.2.trans (Turned.of_below (below_one _)), by have := h.2.size; simp; omega, hF⟩
def upTo (m : Nat) (vi : Value) : Nat := if (intOf vi).toNat = 0 then 0 else m + 1 - (intOf vi).toNat
theorem upTo_lt {m a b : Nat} (ha : a ≠ 0) (ham : a < m) (h : b = 0 ∨ a + 1 ≤ b) : upTo m (.int .i64 (b : Int)) < upTo m (.int .i64 (a : Int)) := by
  have e : ∀ x : Nat, upTo m (.int .i64 (x : Int)) = if x = 0 then 0 else m + 1 - x := fun x => by
    show (if (x : Int).toNat = 0 then 0 else m + 1 - (x : Int).toNat) = _
    rw [Int.toNat_natCast]
  rw [e, e, if_neg ha]
  rcases h with h | h
  · rw [if_pos h]; omega
  · rw [if_neg (by omega)]; omega
end Go.Proofs.YtdkbgdjkdalalaaGreatDoor
