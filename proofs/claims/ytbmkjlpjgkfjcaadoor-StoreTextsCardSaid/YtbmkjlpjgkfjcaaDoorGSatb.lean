/-
  What a cycle keeps: all that its roots reached when it began, and all that was laid since. Plain mathematics.
-/
import Derived.Test.YtbmkjlpjgkfjcaaDoorGAbs
namespace Go.Proofs.YtbmkjlpjgkfjcaaDoor
inductive Reached (L : List Ob) (roots : List Nat) : Nat → Prop
  | root {x : Nat} (h : x ∈ roots) (hi : IsIn L (addrW x)) : Reached L roots (addrW x)
  | step {a x : Nat} (ha : Reached L roots a) (h : x ∈ kidsOf L a) (hi : IsIn L (addrW x)) : Reached L roots (addrW x)
theorem Reached.isIn {L : List Ob} {roots : List Nat} {a : Nat} (h : Reached L roots a) : IsIn L a := by
  cases h <;> assumption
def kindOf (L : List Ob) (a : Nat) : Option Nat := (findOb L a).map Ob.kind
def Gray (s : GS) (a : Nat) : Prop := a ∈ s.G ∨ a ∈ s.B
/-- A field as it was, or what it reached is grey or black. -/
def Kept (L0 : List Ob) (s : GS) (o0 o : Ob) : Prop := o.fs.length = o0.fs.length ∧ ∀ i, i < o0.fs.length → IsIn L0 (addrW (o0.fs.getD i 0)) → o.fs.getD i 0 = o0.fs.getD i 0 ∨ Gray s (addrW (o0.fs.getD i 0))
structure KInv (L0 : List Ob) (roots D : List Nat) (s : GS) : Prop where
  isin : ∀ a, Reached L0 roots a ∨ a ∈ D → IsIn s.L a
  kind : ∀ a, Reached L0 roots a → kindOf s.L a = kindOf L0 a
  laid : s.ph = 1 → ∀ a ∈ D, a ∈ s.B
  root : s.ph = 1 → ∀ x ∈ roots, IsIn L0 (addrW x) → Gray s (addrW x)
  done : s.ph = 1 → ∀ a, Reached L0 roots a → a ∈ s.B → ∀ x ∈ kidsOf L0 a, IsIn L0 (addrW x) → Gray s (addrW x)
  same : s.ph = 1 → ∀ a o0 o, Reached L0 roots a → findOb L0 a = some o0 → findOb s.L a = some o → o0.kind ≠ 1 → Kept L0 s o0 o
  swept : s.ph = 2 → ∀ a, Reached L0 roots a ∨ a ∈ D → a ∈ s.B ∨ a < s.pos
theorem mem_getD {l : List Nat} {x : Nat} (h : x ∈ l) : ∃ i, i < l.length ∧ l.getD i 0 = x := by
  obtain ⟨i, hi, rfl⟩ := List.getElem_of_mem h
  exact ⟨i, hi, by rw [List.getD_eq_getElem?_getD, List.getElem?_eq_getElem hi]; rfl⟩
theorem getD_mem {l : List Nat} {i : Nat} (h : i < l.length) : l.getD i 0 ∈ l := by
  rw [List.getD_eq_getElem?_getD, List.getElem?_eq_getElem h]
  exact List.getElem_mem h
theorem kids_of {L : List Ob} {a : Nat} {o : Ob} (h : findOb L a = some o) (hk : o.kind ≠ 1) : kidsOf L a = o.fs := by unfold kidsOf; rw [h]; simp [hk]
theorem kids_string {L : List Ob} {a x : Nat} (h : x ∈ kidsOf L a) : ∃ o, findOb L a = some o ∧ o.kind ≠ 1 ∧ x ∈ o.fs := by
  unfold kidsOf at h
  cases hf : findOb L a with
  | none => rw [hf] at h; cases h
  | some o =>
    rw [hf] at h
    simp only at h
    split at h
    · cases h
    · rename_i hk; exact ⟨o, rfl, hk, h⟩
/-- More is grey or black, and nothing else has changed. -/
theorem KInv.grow {L0 : List Ob} {roots D : List Nat} {s t : GS} (h : KInv L0 roots D s) (hL : t.L = s.L) (hph : t.ph = s.ph) (hpos : t.pos = s.pos) (hB : t.B = s.B) (hG : ∀ a ∈ s.G, a ∈ t.G) : KInv L0 roots D t := by
  have hg : ∀ a, Gray s a → Gray t a := fun a ha => ha.imp (hG a) (fun hb => by rw [hB]; exact hb)
  refine ⟨fun a ha => by rw [hL]; exact h.isin a ha, fun a ha => by rw [hL]; exact h.kind a ha, fun hp a ha => by rw [hB]; exact h.laid (hph ▸ hp) a ha, fun hp x hx hi => hg _ (h.root (hph ▸ hp) x hx hi), fun hp a ha hb x hx hi => hg _ (h.done (hph ▸ hp) a ha (hB ▸ hb) x hx hi), fun hp a o0 o ha h0 ho hk => ?_, fun hp a ha => by rw [hB, hpos]; exact h.swept (hph ▸ hp) a ha⟩
  rw [hL] at ho
  obtain ⟨h1, h2⟩ := h.same (hph ▸ hp) a o0 o ha h0 ho hk
  exact ⟨h1, fun i hi hin => (h2 i hi hin).imp id (hg _)⟩
theorem KInv.shade {L0 : List Ob} {roots D : List Nat} {s : GS} (h : KInv L0 roots D s) (x : Nat) : KInv L0 roots D (s.shade x) := by
  obtain ⟨h1, h2, h3, h4⟩ := shade_same s x
  exact h.grow h1 h2 h4 h3 fun a ha => shade_keeps x ha
theorem KInv.shades {L0 : List Ob} {roots D : List Nat} {s : GS} (h : KInv L0 roots D s) (xs : List Nat) : KInv L0 roots D (s.shades xs) := by
  obtain ⟨h1, h2, h3, h4⟩ := shades_same s xs
  exact h.grow h1 h2 h4 h3 fun a ha => shades_keeps xs ha
theorem KInv.begin {words : Nat} {s : GS} (hi : GInv words s) (roots : List Nat) (h0 : s.ph = 0) : KInv s.L roots [] (s.begin roots).2 := by
  unfold GS.begin
  rw [if_pos h0]
  obtain ⟨h1, h2, h3, h4⟩ := shades_same (GS.mk s.L 1 s.G s.B s.pos) roots
  refine ⟨fun a ha => ?_, fun a ha => by rw [h1], (fun _ a ha => by cases ha), fun _ x hx hin => ?_, fun _ a _ hb => ?_, fun _ a o0 o _ e0 e1 _ => ?_, fun hp => ?_⟩
  · rw [h1]
    rcases ha with ha | ha
    · exact ha.isIn
    · cases ha
  · rcases shades_gets (s := GS.mk s.L 1 s.G s.B s.pos) hx hin with h | h
    · exact .inl h
    · exact .inr (by rw [h3]; exact h)
  · rw [h3] at hb
    have hb : a ∈ s.B := hb
    rw [hi.bnil h0] at hb
    cases hb
  · rw [h1] at e1
    obtain rfl : o0 = o := Option.some.inj (e0.symm.trans e1)
    exact ⟨rfl, fun i _ _ => .inl rfl⟩
  · have hp : ((GS.mk s.L 1 s.G s.B s.pos).shades roots).ph = 2 := hp
    rw [h2] at hp
    cases hp
theorem KInv.blacken {L0 : List Ob} {roots D : List Nat} {s : GS} (h : KInv L0 roots D s) (hp : s.ph = 1) {a : Nat} (ha : a ∈ s.G) : KInv L0 roots D (s.blacken a) := by
  unfold GS.blacken
  obtain ⟨h1, h2, h3, h4⟩ := shades_same (s.black a) (kidsOf s.L a)
  have hg0 : ∀ b, Gray s b → Gray (s.black a) b := fun b hb => by
    rcases hb with hb | hb
    · by_cases he : b = a
      · exact .inr (by rw [he]; simp [GS.black])
      · exact .inl (mem_without.2 ⟨hb, he⟩)
    · exact .inr (by simp [GS.black, hb])
  have hg1 : ∀ b, Gray s b → Gray ((s.black a).shades (kidsOf s.L a)) b := fun b hb => (hg0 b hb).imp (shades_keeps _) (fun hx => by rw [h3]; exact hx)
  refine ⟨fun b hb => by rw [h1]; exact h.isin b hb, fun b hb => by rw [h1]; exact h.kind b hb, fun _ b hb => by rw [h3]; exact List.mem_append.2 (.inl (h.laid hp b hb)), fun _ x hx hin => hg1 _ (h.root hp x hx hin), fun _ b hb hbb x hx hin => ?_, fun _ b o0 o hb e0 e1 hk => ?_, fun hp2 => ?_⟩
  · rw [h3] at hbb
    have hbb : b ∈ s.B ++ [a] := hbb
    rcases List.mem_append.1 hbb with hbb | hbb
    · exact hg1 _ (h.done hp b hb hbb x hx hin)
    · obtain rfl : b = a := by simpa using hbb
      obtain ⟨o0, e0, hk, hx0⟩ := kids_string hx
      have hrx : Reached L0 roots (addrW x) := .step hb hx hin
      have hxs := h.isin _ (.inl hrx)
      obtain ⟨o, e1⟩ := isIn_some (h.isin b (.inl hb))
      have hko : o.kind = o0.kind := by
        have := h.kind b hb
        unfold kindOf at this
        rw [e0, e1] at this
        simpa using this
      obtain ⟨hl, hs⟩ := h.same hp b o0 o hb e0 e1 hk
      obtain ⟨i, hil, hix⟩ := mem_getD hx0
      rcases hs i hil (by rw [hix]; exact hin) with he | he
      · have hxk : x ∈ kidsOf s.L b := by
          rw [kids_of e1 (by rw [hko]; exact hk), ← hix, ← he]
          exact getD_mem (by omega)
        rcases shades_gets (s := s.black b) hxk hxs with hh | hh
        · exact .inl hh
        · exact .inr (by rw [h3]; exact hh)
      · rw [hix] at he
        exact hg1 _ he
  · rw [h1] at e1
    obtain ⟨hl, hs⟩ := h.same hp b o0 o hb e0 e1 hk
    exact ⟨hl, fun i hil hin => (hs i hil hin).imp id (hg1 _)⟩
  · have hp2 : ((s.black a).shades (kidsOf s.L a)).ph = 2 := hp2
    rw [h2] at hp2
    have hp2 : s.ph = 2 := hp2
    omega
/-- When nothing is grey any more, all that was reached is black. -/
theorem KInv.black {L0 : List Ob} {roots D : List Nat} {s : GS} (h : KInv L0 roots D s) (hp : s.ph = 1) (hg : s.G = []) {a : Nat} (ha : Reached L0 roots a) : a ∈ s.B := by
  have hno : ∀ b, Gray s b → b ∈ s.B := fun b hb => hb.elim (fun hx => by rw [hg] at hx; cases hx) id
  induction ha with
  | root hx hin => exact hno _ (h.root hp _ hx hin)
  | step hb hx hin ih => exact hno _ (h.done hp _ hb ih _ hx hin)
theorem KInv.step {words : Nat} {L0 : List Ob} {roots D : List Nat} {s : GS} (h : KInv L0 roots D s) (hi : GInv words s) : KInv L0 roots D s.step.2 := by
  unfold GS.step
  by_cases h1 : s.ph = 1
  · rw [if_pos h1]
    by_cases hg : s.G = []
    · rw [if_pos hg]
      refine ⟨h.isin, h.kind, fun hp => absurd (show (2 : Nat) = 1 from hp) (by decide), fun hp => absurd (show (2 : Nat) = 1 from hp) (by decide), fun hp => absurd (show (2 : Nat) = 1 from hp) (by decide), fun hp => absurd (show (2 : Nat) = 1 from hp) (by decide), fun _ a ha => ?_⟩
      rcases ha with ha | ha
      · exact .inl (h.black h1 hg ha)
      · exact .inl (h.laid h1 a ha)
    · rw [if_neg hg]
      exact h.blacken h1 (least_spec hg).1
  · rw [if_neg h1]
    by_cases h2 : s.ph = 2
    · rw [if_pos h2]
      rcases next_facts hi.lies (Nat.le_refl _) s.pos with ⟨k1, k2⟩ | ⟨k1, k2, k3, k4⟩
      · rw [if_pos k1]
        exact ⟨h.isin, h.kind, fun hp => absurd (show (0 : Nat) = 1 from hp) (by decide), fun hp => absurd (show (0 : Nat) = 1 from hp) (by decide), fun hp => absurd (show (0 : Nat) = 1 from hp) (by decide), fun hp => absurd (show (0 : Nat) = 1 from hp) (by decide), fun hp => absurd (show (0 : Nat) = 2 from hp) (by decide)⟩
      · rw [if_neg k3]
        generalize nextOb s.L s.pos = b at *
        obtain ⟨d1, d2⟩ := drop_facts hi.lies k1
        have hne : s.White b → ∀ a, Reached L0 roots a ∨ a ∈ D → a ≠ b := fun hw a ha he => by
          subst he
          rcases h.swept h2 a ha with hb | hb
          · exact hw.2.2 hb
          · omega
        have hn1 : (s.sweep b).ph ≠ 1 := h1
        refine ⟨fun a ha => ?_, fun a ha => ?_, fun hp => absurd hp hn1, fun hp => absurd hp hn1, fun hp => absurd hp hn1, fun hp => absurd hp hn1, fun _ a ha => ?_⟩
        · show IsIn (if s.White b then dropOb s.L b else s.L) a
          split
          · rename_i hw
            unfold IsIn
            rw [d2, if_neg (hne hw a ha)]
            exact h.isin a ha
          · exact h.isin a ha
        · show kindOf (if s.White b then dropOb s.L b else s.L) a = _
          split
          · rename_i hw
            unfold kindOf
            rw [d2, if_neg (hne hw a (.inl ha))]
            exact h.kind a ha
          · exact h.kind a ha
        · show a ∈ without s.B b ∨ a < b + 1
          by_cases he : a = b
          · exact .inr (by omega)
          · rcases h.swept h2 a ha with hb | hb
            · exact .inl (mem_without.2 ⟨hb, he⟩)
            · exact .inr (by omega)
    · rw [if_neg h2]; exact h
theorem KInv.laidIn {L0 : List Ob} {roots D : List Nat} {s : GS} (h : KInv L0 roots D s) {L' : List Ob} {a : Nat} {o : Ob} (hn : findOb s.L a = none) (hf : ∀ c, findOb L' c = if c = a then some o else findOb s.L c) : KInv L0 roots (D ++ [a]) (s.laid L' a) := by
  have hne : ∀ b, Reached L0 roots b → b ≠ a := fun b hb he => not_isIn.2 hn (he ▸ h.isin b (.inl hb))
  have hB : ∀ b, b ∈ s.B → b ∈ (s.laid L' a).B := fun b hb => by
    show b ∈ (if s.ph = 1 ∨ (s.ph = 2 ∧ s.pos ≤ a) then s.B ++ [a] else s.B)
    split
    · exact List.mem_append.2 (.inl hb)
    · exact hb
  have hg : ∀ b, Gray s b → Gray (s.laid L' a) b := fun b hb => hb.imp id (hB b)
  have hBa : ∀ b, b ∈ (s.laid L' a).B → b ≠ a → b ∈ s.B := fun b hb hnb => by
    have hb : b ∈ (if s.ph = 1 ∨ (s.ph = 2 ∧ s.pos ≤ a) then s.B ++ [a] else s.B) := hb
    split at hb
    · rcases List.mem_append.1 hb with hb | hb
      · exact hb
      · exact absurd (by simpa using hb) hnb
    · exact hb
  refine ⟨fun b hb => ?_, fun b hb => ?_, fun hp b hb => ?_, fun hp x hx hin => hg _ (h.root hp x hx hin), fun hp b hb hbb x hx hin => hg _ (h.done hp b hb (hBa b hbb (hne b hb)) x hx hin), fun hp b o0 o1 hb e0 e1 hk => ?_, fun hp b hb => ?_⟩
  · show IsIn L' b
    unfold IsIn
    rw [hf]
    split
    · rfl
    · rename_i hnb
      rcases hb with hb | hb
      · exact h.isin b (.inl hb)
      · rcases List.mem_append.1 hb with hb | hb
        · exact h.isin b (.inr hb)
        · exact absurd (by simpa using hb) hnb
  · show kindOf L' b = _
    unfold kindOf
    rw [hf, if_neg (hne b hb)]
    exact h.kind b hb
  · have hp : s.ph = 1 := hp
    rcases List.mem_append.1 hb with hb | hb
    · exact hB b (h.laid hp b hb)
    · obtain rfl : b = a := by simpa using hb
      show b ∈ (if s.ph = 1 ∨ (s.ph = 2 ∧ s.pos ≤ b) then s.B ++ [b] else s.B)
      rw [if_pos (.inl hp)]; simp
  · have e1 : findOb L' b = some o1 := e1
    rw [hf, if_neg (hne b hb)] at e1
    obtain ⟨hl, hs⟩ := h.same hp b o0 o1 hb e0 e1 hk
    exact ⟨hl, fun i hil hin => (hs i hil hin).imp id (hg _)⟩
  · have hp : s.ph = 2 := hp
    show b ∈ (s.laid L' a).B ∨ b < s.pos
    have hold : Reached L0 roots b ∨ b ∈ D → b ∈ (s.laid L' a).B ∨ b < s.pos := fun hb => (h.swept hp b hb).imp (hB b) id
    rcases hb with hb | hb
    · exact hold (.inl hb)
    · rcases List.mem_append.1 hb with hb | hb
      · exact hold (.inr hb)
      · obtain rfl : b = a := by simpa using hb
        by_cases hpb : s.pos ≤ b
        · left
          show b ∈ (if s.ph = 1 ∨ (s.ph = 2 ∧ s.pos ≤ b) then s.B ++ [b] else s.B)
          rw [if_pos (.inr ⟨hp, hpb⟩)]; simp
        · exact .inr (by omega)
/-- Laying an object: its address is among those laid since. -/
def laidBy (words : Nat) (s : GS) (k n : Int) (D : List Nat) : List Nat := if (s.alloc words k n).2.1 = 0 then D ++ [(s.alloc words k n).1.toNat] else D
theorem KInv.alloc {words : Nat} {L0 : List Ob} {roots D : List Nat} {s : GS} (h : KInv L0 roots D s) (hi : GInv words s) (k n : Int) : KInv L0 roots (laidBy words s k n D) (s.alloc words k n).2.2 := by
  unfold laidBy
  rcases alloc_facts k n hi.lies with ⟨e, he, ha⟩ | ⟨a, kk, nn, L', ha, _, _, _, _, hl, hn, hf, _⟩
  · have hv : s.alloc words k n = (0, e, s) := by unfold GS.alloc; rw [ha, if_neg he]
    rw [hv, if_neg he]; exact h
  · have hv : s.alloc words k n = ((a : Int), 0, s.laid L' a) := by unfold GS.alloc; rw [ha, if_pos rfl]; rfl
    rw [hv, if_pos rfl]
    exact h.laidIn hn hf
theorem hGet_some {L : List Ob} {a i : Int} (h : (hGet L a i).2 = 0) : ∃ (n j : Nat) (o : Ob), a = (n : Int) ∧ i = (j : Int) ∧ findOb L n = some o ∧ j < o.fs.length ∧ (hGet L a i).1 = o.fs.getD j 0 ∧ (∀ x, (hSet L a i x).2 = setOb L n j x) ∧ (hKind L a).1 = o.kind := by
  unfold hGet at h ⊢
  unfold hSet hKind
  by_cases ha : a < 0
  · rw [if_pos ha] at h; cases h
  · rw [if_neg ha] at h ⊢
    obtain ⟨n, rfl⟩ := Int.eq_ofNat_of_zero_le (show 0 ≤ a by omega)
    rw [Int.toNat_natCast] at h ⊢
    cases hf : findOb L n with
    | none => rw [hf] at h; cases h
    | some o =>
      rw [hf] at h
      simp only at h ⊢
      by_cases hi : i < 0 ∨ (o.fs.length : Int) ≤ i
      · rw [if_pos hi] at h; cases h
      · obtain ⟨j, rfl⟩ := Int.eq_ofNat_of_zero_le (show 0 ≤ i by omega)
        refine ⟨n, j, o, rfl, rfl, hf, by omega, by rw [if_neg hi, Int.toNat_natCast], fun x => by rw [if_neg ha, if_neg hi, Int.toNat_natCast], by rw [if_neg ha]⟩
theorem KInv.write {L0 : List Ob} {roots D : List Nat} {s : GS} (h : KInv L0 roots D s) (a i : Int) (x : Nat) : KInv L0 roots D (s.write a i x).2 := by
  unfold GS.write
  by_cases he : (hGet s.L a i).2 = 0
  · rw [if_pos he]
    obtain ⟨n, j, o, rfl, rfl, ho, hj, hg, hs, hk⟩ := hGet_some he
    rw [hs, hg]
    have hb : KInv L0 roots D (s.barrier (n : Int) (o.fs.getD j 0)) := by
      unfold GS.barrier; split
      · exact h.shade _
      · exact h
    obtain ⟨b1, b2, b3, b4⟩ := barrier_same s (n : Int) (o.fs.getD j 0)
    have hbar : s.ph = 1 → o.kind ≠ 1 → IsIn s.L (addrW (o.fs.getD j 0)) → Gray (s.barrier (n : Int) (o.fs.getD j 0)) (addrW (o.fs.getD j 0)) := fun hp hk1 hin => by
      unfold GS.barrier
      rw [if_pos ⟨hp, by rw [hk]; exact hk1⟩]
      rcases shade_gets hin with h1 | h1
      · exact .inl h1
      · exact .inr (by rw [(shade_same _ _).2.2.1]; exact h1)
    generalize s.barrier (n : Int) (o.fs.getD j 0) = t at *
    have hfind := fun c => find_set s.L n j x c
    have hisin : ∀ c, IsIn (setOb s.L n j x) c ↔ IsIn s.L c := fun c => by
      unfold IsIn; rw [hfind]
      split
      · rename_i hc; subst hc; rw [ho]; simp
      · exact Iff.rfl
    refine ⟨fun c hc => (hisin c).2 (h.isin c hc), fun c hc => ?_, hb.laid, hb.root, hb.done, fun hp c o0 o1 hc e0 e1 hk1 => ?_, hb.swept⟩
    · show kindOf (setOb s.L n j x) c = _
      rw [← h.kind c hc]
      unfold kindOf
      rw [hfind]
      split
      · rename_i hcn; subst hcn; rw [ho]; rfl
      · rfl
    · have hp : t.ph = 1 := hp
      have e1 : findOb (setOb s.L n j x) c = some o1 := e1
      rw [hfind] at e1
      by_cases hcn : c = n
      · subst hcn
        rw [if_pos rfl, ho] at e1
        obtain rfl : o.put j x = o1 := by simpa using e1
        obtain ⟨hl, hsm⟩ := hb.same hp c o0 o hc e0 (by rw [b1]; exact ho) hk1
        have hko : o.kind = o0.kind := by
          have := h.kind c hc
          unfold kindOf at this
          rw [e0, ho] at this
          simpa using this
        refine ⟨by simp [Ob.put, hl], fun i hil hin => ?_⟩
        show (o.fs.set j x).getD i 0 = _ ∨ _
        by_cases hij : i = j
        · subst hij
          rcases hsm i hil hin with h1 | h1
          · have hr : Reached L0 roots (addrW (o0.fs.getD i 0)) := .step hc (by rw [kids_of e0 hk1]; exact getD_mem hil) hin
            have h2 := hbar (b2.symm.trans hp) (by rw [hko]; exact hk1) (by rw [h1]; exact h.isin _ (.inl hr))
            rw [h1] at h2
            exact .inr h2
          · exact .inr h1
        · have h2 : (o.fs.set j x).getD i 0 = o.fs.getD i 0 := by
            simp only [List.getD_eq_getElem?_getD]
            rw [List.getElem?_set_ne (fun hx => hij hx.symm)]
          rw [h2]
          exact hsm i hil hin
      · rw [if_neg hcn] at e1
        exact hb.same hp c o0 o1 hc e0 (by rw [b1]; exact e1) hk1
  · rw [if_neg he]; exact h
theorem KInv.run {words : Nat} {L0 : List Ob} {roots D : List Nat} {s : GS} (h : KInv L0 roots D s) (hi : GInv words s) (k : Nat) : KInv L0 roots D (s.run k) := by
  induction k with
  | zero => exact h
  | succ k ih => exact ih.step (hi.run k)
end Go.Proofs.YtbmkjlpjgkfjcaaDoor
