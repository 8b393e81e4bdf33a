/-
  Plain facts: what is quoted: byte by byte the one whose quoted form stands there; there is at most one.
-/
import Derived.Test.YtigbapkdpaahjaaDoorQuoted
import Derived.Lib.Strings
import Derived.Lib.Bytealg
namespace Go.Proofs.YtigbapkdpaahjaaDoor
open Go.RowKit
def hexLit : List UInt8 := [48, 49, 50, 51, 52, 53, 54, 55, 56, 57, 97, 98, 99, 100, 101, 102]
/-- What a digit of base 16 counts, or 0. -/
def DG (c : UInt8) : Nat := (max 0 (Lib.indexByte hexLit c)).toNat
theorem DG_of_fin : ∀ k : Fin 16, DG (hexd k.val) = k.val := by decide
theorem DG_of (k : Nat) (h : k < 16) : DG (hexd k) = k := DG_of_fin ⟨k, h⟩
theorem DG_small_fin : ∀ k : Fin 256, DG (UInt8.ofNat k.val) ≤ 15 := by decide +kernel
theorem DG_small (c : UInt8) : DG c ≤ 15 := by
  have := DG_small_fin ⟨c.toNat, c.toNat_lt⟩
  simpa using this
/-- The byte whose quoted form l may begin with. -/
def Mn (l : List UInt8) : Nat :=
  if l.getD 0 0 ≠ 92 ∨ l.length = 1 then (l.getD 0 0).toNat
  else if l.getD 1 0 = 110 then 10
  else if l.getD 1 0 = 120 ∧ 4 ≤ l.length then DG (l.getD 2 0) * 16 + DG (l.getD 3 0)
  else (l.getD 1 0).toNat
theorem Mn_lt (l : List UInt8) : Mn l < 256 := by
  unfold Mn
  have h0 := (l.getD 0 0).toNat_lt
  have h1 := (l.getD 1 0).toNat_lt
  have h2 := DG_small (l.getD 2 0)
  have h3 := DG_small (l.getD 3 0)
  split
  · omega
  · split
    · omega
    · split <;> omega
theorem qf_pos' (n : Nat) : 1 ≤ (qf n).length := by
  unfold qf
  repeat' split
  all_goals simp
def pre (n : Nat) (l : List UInt8) : Bool := Lib.hasPrefix l (qf n)
theorem pre_iff {n : Nat} {l : List UInt8} (h : pre n l = true) : ∃ t, l = qf n ++ t := by
  unfold pre Lib.hasPrefix at h
  rw [List.isPrefixOf_iff_prefix] at h
  obtain ⟨t, ht⟩ := h
  exact ⟨t, ht.symm⟩
theorem ofNat_ne (n : Nat) (h : n < 256) (c : Nat) (hc : c < 256) (hne : n ≠ c) : UInt8.ofNat n ≠ UInt8.ofNat c := by
  intro e
  have := congrArg UInt8.toNat e
  simp only [UInt8.toNat_ofNat'] at this
  omega
/-- At most one byte's quoted form stands at a list's head. -/
theorem pre_unique {n : Nat} {l : List UInt8} (hn : n < 256) (h : pre n l = true) : n = Mn l := by
  obtain ⟨t, rfl⟩ := pre_iff h
  unfold qf
  by_cases e1 : n = 34
  · subst e1; rfl
  · by_cases e2 : n = 92
    · subst e2; rfl
    · by_cases e3 : n = 10
      · subst e3; rfl
      · rw [if_neg e1, if_neg e2, if_neg e3]
        by_cases h4 : 32 ≤ n ∧ n ≤ 126
        · rw [if_pos h4]
          unfold Mn
          rw [if_pos (Or.inl (by simpa using ofNat_ne n hn 92 (by decide) e2))]
          simp
          omega
        · rw [if_neg h4]
          unfold Mn
          have k1 := DG_of (n / 16) (by omega)
          have k2 := DG_of (n % 16) (by omega)
          rw [if_neg (by simp), if_neg (by simp), if_pos (by simp)]
          simp [k1, k2]
          omega
/-- What is quoted, if anything is: f is enough for all bytes. -/
def unq : Nat → List UInt8 → Option (List UInt8)
  | 0, _ => some []
  | f + 1, l => if l = [] then some [] else if pre (Mn l) l = true then (unq f (l.drop (qf (Mn l)).length)).map (UInt8.ofNat (Mn l) :: ·) else none
def UnqV (l : List UInt8) : List UInt8 × Int :=
  if l.length < 2 ∨ l.getD 0 0 ≠ 34 ∨ l.getD (l.length - 1) 0 ≠ 34 then ([], 5)
  else match unq l.length ((l.drop 1).take (l.length - 2)) with
    | some r => (r, 0)
    | none => ([], 5)
theorem unq_nil (f : Nat) : unq f [] = some [] := by
  cases f <;> simp [unq]
theorem unq_yes (f : Nat) (l : List UInt8) (h : l ≠ []) (hp : pre (Mn l) l = true) : unq (f + 1) l = (unq f (l.drop (qf (Mn l)).length)).map (UInt8.ofNat (Mn l) :: ·) := by
  rw [unq, if_neg h, if_pos hp]
theorem unq_no (f : Nat) (l : List UInt8) (h : l ≠ []) (hp : pre (Mn l) l = false) : unq (f + 1) l = none := by
  rw [unq, if_neg h, if_neg (by simp [hp])]
/-- What the loop keeps: 'done' has been read, l is left. -/
def UKeep (F : Nat) (I : List UInt8) (done l : List UInt8) : Prop := ∃ f, l.length ≤ f ∧ unq F I = (unq f l).map (done ++ ·)
theorem UKeep.start (F : Nat) (I : List UInt8) (h : I.length ≤ F) : UKeep F I [] I := ⟨F, h, by simp⟩
theorem UKeep.stop {F : Nat} {I done : List UInt8} (h : UKeep F I done []) : unq F I = some done := by
  obtain ⟨f, _, h⟩ := h
  rw [h, unq_nil]
  simp
theorem UKeep.none {F : Nat} {I done l : List UInt8} (h : UKeep F I done l) (hl : l ≠ []) (hp : pre (Mn l) l = false) : unq F I = none := by
  obtain ⟨f, hf, h⟩ := h
  match f, hf, h with
  | 0, hf, _ => exact absurd (List.length_eq_zero_iff.1 (by omega)) hl
  | f + 1, _, h => rw [h, unq_no f l hl hp]; rfl
theorem UKeep.step {F : Nat} {I done l : List UInt8} (h : UKeep F I done l) (hl : l ≠ []) (hp : pre (Mn l) l = true) : UKeep F I (done ++ [UInt8.ofNat (Mn l)]) (l.drop (qf (Mn l)).length) := by
  obtain ⟨f, hf, h⟩ := h
  match f, hf, h with
  | 0, hf, _ => exact absurd (List.length_eq_zero_iff.1 (by omega)) hl
  | f + 1, hf, h =>
    refine ⟨f, ?_, ?_⟩
    · have := qf_pos' (Mn l)
      rw [List.length_drop]
      omega
    · rw [h, unq_yes f l hl hp, Option.map_map]
      congr 1
      funext x
      simp
theorem pre_length {n : Nat} {l : List UInt8} (h : pre n l = true) : (qf n).length ≤ l.length := by
  obtain ⟨t, rfl⟩ := pre_iff h
  simp
theorem unqV_form {l : List UInt8} (h : l.length < 2 ∨ l.getD 0 0 ≠ 34 ∨ l.getD (l.length - 1) 0 ≠ 34) : UnqV l = ([], 5) := by
  unfold UnqV
  rw [if_pos h]
theorem unqV_some {l r : List UInt8} (h : ¬ (l.length < 2 ∨ l.getD 0 0 ≠ 34 ∨ l.getD (l.length - 1) 0 ≠ 34)) (h2 : unq l.length ((l.drop 1).take (l.length - 2)) = some r) : UnqV l = (r, 0) := by
  unfold UnqV
  rw [if_neg h, h2]
theorem unqV_none {l : List UInt8} (h : ¬ (l.length < 2 ∨ l.getD 0 0 ≠ 34 ∨ l.getD (l.length - 1) 0 ≠ 34)) (h2 : unq l.length ((l.drop 1).take (l.length - 2)) = none) : UnqV l = ([], 5) := by
  unfold UnqV
  rw [if_neg h, h2]
end Go.Proofs.YtigbapkdpaahjaaDoor
