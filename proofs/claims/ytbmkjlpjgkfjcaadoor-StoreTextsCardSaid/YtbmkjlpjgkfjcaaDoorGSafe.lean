/-
  What a program that holds some words can still reach is there, whatever cycles go on. Plain mathematics.
-/
import Derived.Test.YtbmkjlpjgkfjcaaDoorGSatb
namespace Go.Proofs.YtbmkjlpjgkfjcaaDoor
/-- A number, or the word of what is kept. -/
def OkW (V : Nat → Prop) (x : Nat) : Prop := x % 2 = 1 ∨ V (addrW x)
def Alive (L0 : List Ob) (roots D : List Nat) (a : Nat) : Prop := Reached L0 roots a ∨ a ∈ D
structure SafeAt (L0 : List Ob) (roots D : List Nat) (regs : List Nat) (s : GS) : Prop where
  keep : KInv L0 roots D s
  kinds : ∀ a o, Alive L0 roots D a → findOb s.L a = some o → o.kind = 6
  regs : ∀ x ∈ regs, OkW (Alive L0 roots D) x
  fields : ∀ a o, Alive L0 roots D a → findOb s.L a = some o → ∀ x ∈ o.fs, OkW (Alive L0 roots D) x
def SafeInv (regs : List Nat) (s : GS) : Prop := ∃ L0 roots D, SafeAt L0 roots D regs s
theorem no_reach {L : List Ob} {a : Nat} (h : Reached L [] a) : False := by
  induction h with
  | root h _ => cases h
  | step _ _ _ ih => exact ih
theorem safe_start : SafeInv [1, 1, 1, 1, 1, 1] ⟨[], 0, [], [], 0⟩ := by
  refine ⟨[], [], [], ⟨⟨fun a ha => ?_, fun a ha => absurd ha no_reach, (fun _ a ha => by cases ha), (fun _ x hx => by cases hx), fun _ a ha => absurd ha no_reach, fun _ a _ _ ha => absurd ha no_reach, fun hp => absurd (show (0 : Nat) = 2 from hp) (by decide)⟩, fun a o ha => ?_, fun x hx => .inl ?_, fun a o ha => ?_⟩⟩
  · rcases ha with ha | ha
    · exact absurd ha no_reach
    · cases ha
  · rcases ha with ha | ha
    · exact absurd ha no_reach
    · cases ha
  · simp at hx; subst hx; rfl
  · rcases ha with ha | ha
    · exact absurd ha no_reach
    · cases ha
theorem SafeInv.alive {regs : List Nat} {s : GS} (h : SafeInv regs s) {x : Nat} (hx : x ∈ regs) (ho : x % 2 ≠ 1) : IsIn s.L (addrW x) := by
  obtain ⟨L0, roots, D, h⟩ := h
  rcases h.regs x hx with h1 | h1
  · exact absurd h1 ho
  · exact h.keep.isin _ h1
theorem mem_set_or {l : List Nat} {i x y : Nat} (h : y ∈ l.set i x) : y ∈ l ∨ y = x := List.mem_or_eq_of_mem_set h
theorem SafeInv.number {regs : List Nat} {s : GS} (h : SafeInv regs s) (i x : Nat) (hx : x % 2 = 1) : SafeInv (regs.set i x) s := by
  obtain ⟨L0, roots, D, h⟩ := h
  refine ⟨L0, roots, D, ⟨h.keep, h.kinds, fun y hy => ?_, h.fields⟩⟩
  rcases mem_set_or hy with hy | rfl
  · exact h.regs y hy
  · exact .inl hx
theorem step_find {words : Nat} {s : GS} (hi : GInv words s) {a : Nat} {o : Ob} (h : findOb s.step.2.L a = some o) : findOb s.L a = some o := by
  unfold GS.step at h
  by_cases h1 : s.ph = 1
  · rw [if_pos h1] at h
    by_cases hg : s.G = []
    · rw [if_pos hg] at h; exact h
    · rw [if_neg hg] at h
      have := (shades_same (s.black (least s.G)) (kidsOf s.L (least s.G))).1
      have h : findOb ((s.black (least s.G)).shades (kidsOf s.L (least s.G))).L a = some o := h
      rw [this] at h
      exact h
  · rw [if_neg h1] at h
    by_cases h2 : s.ph = 2
    · rw [if_pos h2] at h
      rcases next_facts hi.lies (Nat.le_refl _) s.pos with ⟨k1, _⟩ | ⟨k1, _, k3, _⟩
      · rw [if_pos k1] at h; exact h
      · rw [if_neg k3] at h
        have h : findOb (if s.White (nextOb s.L s.pos) then dropOb s.L (nextOb s.L s.pos) else s.L) a = some o := h
        split at h
        · rw [(drop_facts hi.lies k1).2] at h
          split at h
          · cases h
          · exact h
        · exact h
    · rw [if_neg h2] at h; exact h
theorem SafeInv.step {words : Nat} {regs : List Nat} {s : GS} (h : SafeInv regs s) (hi : GInv words s) : SafeInv regs s.step.2 := by
  obtain ⟨L0, roots, D, h⟩ := h
  exact ⟨L0, roots, D, ⟨h.keep.step hi, fun a o ha ho => h.kinds a o ha (step_find hi ho), h.regs, fun a o ha ho => h.fields a o ha (step_find hi ho)⟩⟩
theorem odd_no {words x : Nat} {L : List Ob} (hl : Lies words 1 L) (h : x % 2 = 1) : ¬ IsIn L (addrW x) := fun hin => by
  have : addrW x = 0 := by unfold addrW; rw [if_pos (.inl h)]
  rw [this] at hin
  have := isIn_range hl hin
  omega
theorem SafeInv.begin {words : Nat} {regs : List Nat} {s : GS} (h : SafeInv regs s) (hi : GInv words s) : SafeInv regs (s.begin regs).2 := by
  by_cases h0 : s.ph = 0
  · obtain ⟨L0, roots, D, h⟩ := h
    have hL : (s.begin regs).2.L = s.L := by
      unfold GS.begin; rw [if_pos h0]; exact (shades_same _ _).1
    have hsub : ∀ a, Reached s.L regs a → Alive L0 roots D a := fun a ha => by
      induction ha with
      | root hx hin =>
        rcases h.regs _ hx with h1 | h1
        · exact absurd hin (odd_no hi.lies h1)
        · exact h1
      | step hb hx hin ih =>
        obtain ⟨o, ho, _, hxo⟩ := kids_string hx
        rcases h.fields _ o ih ho _ hxo with h1 | h1
        · exact absurd hin (odd_no hi.lies h1)
        · exact h1
    refine ⟨s.L, regs, [], ⟨.begin hi regs h0, fun a o ha ho => ?_, fun x hx => ?_, fun a o ha ho x hx => ?_⟩⟩
    · rw [hL] at ho
      rcases ha with ha | ha
      · exact h.kinds a o (hsub a ha) ho
      · cases ha
    · rcases h.regs x hx with h1 | h1
      · exact .inl h1
      · exact .inr (.inl (.root hx (h.keep.isin _ h1)))
    · rw [hL] at ho
      rcases ha with ha | ha
      · rcases h.fields a o (hsub a ha) ho x hx with h1 | h1
        · exact .inl h1
        · exact .inr (.inl (.step ha (by rw [kids_of ho (by rw [h.kinds a o (hsub a ha) ho]; decide)]; exact hx) (h.keep.isin _ h1)))
      · cases ha
  · unfold GS.begin
    rw [if_neg h0]; exact h
theorem addr_ref {a : Nat} (h : a ≤ 2147483647) : addrW (2 * a) = a := by
  unfold addrW
  rw [if_neg (by omega)]; omega
theorem SafeInv.alloc {words : Nat} {regs : List Nat} {s : GS} (h : SafeInv regs s) (hi : GInv words s) (hw : words ≤ 65536) (n : Int) (r : Nat) :
    ((s.alloc words 6 n).2.1 ≠ 0 → SafeInv regs (s.alloc words 6 n).2.2) ∧ ((s.alloc words 6 n).2.1 = 0 → 0 ≤ (s.alloc words 6 n).1 ∧ (s.alloc words 6 n).1 ≤ 65536 ∧ SafeInv (regs.set r (2 * (s.alloc words 6 n).1.toNat)) (s.alloc words 6 n).2.2) := by
  obtain ⟨L0, roots, D, h⟩ := h
  have hk := h.keep.alloc hi 6 n
  unfold laidBy at hk
  rcases alloc_facts 6 n hi.lies with ⟨e, he, ha⟩ | ⟨a, kk, nn, L', ha, hkk, _, _, _, hl, hn, hf, _⟩
  · have hv : s.alloc words 6 n = (0, e, s) := by unfold GS.alloc; rw [ha, if_neg he]
    rw [hv]
    exact ⟨fun _ => ⟨L0, roots, D, h⟩, fun hx => absurd hx he⟩
  · have hv : s.alloc words 6 n = ((a : Int), 0, s.laid L' a) := by unfold GS.alloc; rw [ha, if_pos rfl]; rfl
    rw [hv, if_pos rfl] at hk
    rw [hv]
    refine ⟨fun hx => absurd rfl hx, fun _ => ?_⟩
    have hia : IsIn L' a := isIn_of (by rw [hf, if_pos rfl])
    have hr := isIn_range hl hia
    simp only [Int.toNat_natCast] at hk ⊢
    have hup : ∀ b, Alive L0 roots D b → Alive L0 roots (D ++ [a]) b := fun b hb => hb.imp id fun hx => List.mem_append.2 (.inl hx)
    have hok : ∀ x, OkW (Alive L0 roots D) x → OkW (Alive L0 roots (D ++ [a])) x := fun x hx => hx.imp id (hup _)
    have hdown : ∀ b, Alive L0 roots (D ++ [a]) b → b ≠ a → Alive L0 roots D b := fun b hb hne => by
      rcases hb with hb | hb
      · exact .inl hb
      · rcases List.mem_append.1 hb with hb | hb
        · exact .inr hb
        · exact absurd (by simpa using hb) hne
    refine ⟨by omega, by omega, L0, roots, D ++ [a], ⟨hk, fun b o hb ho => ?_, fun x hx => ?_, fun b o hb ho x hx => ?_⟩⟩
    · have ho : findOb L' b = some o := ho
      rw [hf] at ho
      by_cases hba : b = a
      · rw [if_pos hba] at ho
        obtain rfl : newOb a kk nn = o := by simpa using ho
        show kk = 6
        omega
      · rw [if_neg hba] at ho
        exact h.kinds b o (hdown b hb hba) ho
    · rcases mem_set_or hx with hx | rfl
      · exact hok x (h.regs x hx)
      · exact .inr (by rw [addr_ref (by omega)]; exact .inr (by simp))
    · have ho : findOb L' b = some o := ho
      rw [hf] at ho
      by_cases hba : b = a
      · rw [if_pos hba] at ho
        obtain rfl : newOb a kk nn = o := by simpa using ho
        have := List.eq_of_mem_replicate (show x ∈ List.replicate nn 1 from hx)
        exact .inl (by rw [this])
      · rw [if_neg hba] at ho
        exact hok x (h.fields b o (hdown b hb hba) ho x hx)
theorem SafeInv.write {regs : List Nat} {s : GS} (h : SafeInv regs s) (a i : Int) (x : Nat) (hx : x ∈ regs) : SafeInv regs (s.write a i x).2 := by
  obtain ⟨L0, roots, D, h⟩ := h
  refine ⟨L0, roots, D, ⟨h.keep.write a i x, fun b o hb ho => ?_, h.regs, fun b o hb ho y hy => ?_⟩⟩
  · unfold GS.write at ho
    by_cases he : (hGet s.L a i).2 = 0
    · rw [if_pos he] at ho
      obtain ⟨n, j, o1, rfl, rfl, ho1, hj, hg, hs, hk⟩ := hGet_some he
      have ho : findOb (hSet s.L (n : Int) (j : Int) x).2 b = some o := ho
      rw [hs, find_set] at ho
      split at ho
      · rename_i hbn
        subst hbn
        rw [ho1] at ho
        obtain rfl : o1.put j x = o := by simpa using ho
        exact h.kinds b o1 hb ho1
      · exact h.kinds b o hb ho
    · rw [if_neg he] at ho
      exact h.kinds b o hb ho
  · unfold GS.write at ho
    by_cases he : (hGet s.L a i).2 = 0
    · rw [if_pos he] at ho
      obtain ⟨n, j, o1, rfl, rfl, ho1, hj, hg, hs, hk⟩ := hGet_some he
      have ho : findOb (hSet s.L (n : Int) (j : Int) x).2 b = some o := ho
      rw [hs, find_set] at ho
      split at ho
      · rename_i hbn
        subst hbn
        rw [ho1] at ho
        obtain rfl : o1.put j x = o := by simpa using ho
        rcases mem_set_or (show y ∈ o1.fs.set j x from hy) with hy | rfl
        · exact h.fields b o1 hb ho1 y hy
        · exact h.regs y hx
      · exact h.fields b o hb ho y hy
    · rw [if_neg he] at ho
      exact h.fields b o hb ho y hy
theorem SafeInv.load {regs : List Nat} {s : GS} (h : SafeInv regs s) (r x : Nat) (hx : x ∈ regs) (ho : x % 2 ≠ 1) (i : Int) (he : (hGet s.L (addrW x : Nat) i).2 = 0) : SafeInv (regs.set r (hGet s.L (addrW x : Nat) i).1) s := by
  obtain ⟨L0, roots, D, h⟩ := h
  obtain ⟨n, j, o, hn, rfl, ho1, hj, hg, _, _⟩ := hGet_some he
  have hn : addrW x = n := by omega
  subst hn
  refine ⟨L0, roots, D, ⟨h.keep, h.kinds, fun y hy => ?_, h.fields⟩⟩
  rcases mem_set_or hy with hy | rfl
  · exact h.regs y hy
  · rw [hg]
    rcases h.regs x hx with h1 | h1
    · exact absurd h1 ho
    · exact h.fields _ o h1 ho1 _ (getD_mem hj)
end Go.Proofs.YtbmkjlpjgkfjcaaDoor
