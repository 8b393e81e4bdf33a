/-
  Plain facts: a tree that is read has at most three parts for each token.
-/
import Derived.Test.YthnefcodjkllgaaDoorGTree
namespace Go.Proofs.YthnefcodjkllgaaDoor
set_option linter.unusedSimpArgs false
set_option linter.unusedVariables false
open Go.RowKit
mutual
def Nd.size : Nd → Nat
  | .mk _ l a => 1 + sizeN l + sizeA a
def sizeN : List Nd → Nat
  | [] => 0
  | x :: r => x.size + sizeN r
def sizeA : List (Nd × Nd) → Nat
  | [] => 0
  | (p, b) :: r => p.size + b.size + sizeA r
end
mutual
theorem size_parts (d : Nat) : ∀ x : Nd, (x.parts d).length = x.size
  | .mk h l a => by
    show ((h.pos, d) :: (partsN (d + 1) l ++ partsA (d + 1) a)).length = 1 + sizeN l + sizeA a
    rw [List.length_cons, List.length_append, sizeN_parts (d + 1) l, sizeA_parts (d + 1) a]
    omega
theorem sizeN_parts (d : Nat) : ∀ l : List Nd, (partsN d l).length = sizeN l
  | [] => rfl
  | x :: r => by
    show (x.parts d ++ partsN d r).length = x.size + sizeN r
    rw [List.length_append, size_parts d x, sizeN_parts d r]
theorem sizeA_parts (d : Nat) : ∀ l : List (Nd × Nd), (partsA d l).length = sizeA l
  | [] => rfl
  | (p, b) :: r => by
    show (p.parts d ++ (b.parts d ++ partsA d r)).length = p.size + b.size + sizeA r
    rw [List.length_append, List.length_append, size_parts d p, size_parts d b, sizeA_parts d r]
    omega
end
theorem sizeN_append (l r : List Nd) : sizeN (l ++ r) = sizeN l + sizeN r := by
  induction l with
  | nil => show sizeN r = 0 + sizeN r; omega
  | cons x l ih => show x.size + sizeN (l ++ r) = x.size + sizeN l + sizeN r; rw [ih]; omega
theorem sizeA_append (l r : List (Nd × Nd)) : sizeA (l ++ r) = sizeA l + sizeA r := by
  induction l with
  | nil => show sizeA r = 0 + sizeA r; omega
  | cons x l ih => show x.1.size + x.2.size + sizeA (l ++ r) = x.1.size + x.2.size + sizeA l + sizeA r; rw [ih]; omega
/-- What is held when the reading begins; what the answer weighs; what is left over. -/
def Md.held : Md → Nat
  | .lvl _ e | .apps e | .dots e => e.size
  | .posts _ l | .field _ _ l => sizeN l
  | .arms l => sizeA l
  | _ => 0
def Md.wt : Md → Nd → Nat
  | .posts _ _, x | .field _ _ _, x | .fields _, x => sizeN x.args
  | .arms _, x => sizeA x.arms
  | _, x => x.size
def Md.slack : Md → Nat
  | .lvl _ _ | .apps _ | .dots _ | .posts _ _ | .arms _ => 0
  | .fields _ | .field _ _ _ => 2
  | _ => 1
/-- The weights fit, when b has been paid so far; each token pays three. -/
def PM.fits (o : Md) : Nat → PM → Prop
  | b, .ret x => o.wt x + o.slack ≤ b
  | _, .fail => True
  | b, .call m k => m.held ≤ b ∧ ∀ x, PM.fits o (b - m.held + m.wt x + m.slack) (k x)
  | b, .acc _ yes no => (∀ t, PM.fits o (b + 3) (yes t)) ∧ PM.fits o b no
  | b, .look _ yes no => PM.fits o b yes ∧ PM.fits o b no
  | b, .look2 _ _ yes no => PM.fits o b yes ∧ PM.fits o b no
theorem PM.fits.mono {o : Md} : ∀ {pm : PM} {b c : Nat}, pm.fits o b → b ≤ c → pm.fits o c
  | .ret _, _, _, h, hc => Nat.le_trans h hc
  | .fail, _, _, _, _ => trivial
  | .call _ _, _, _, h, hc => ⟨Nat.le_trans h.1 hc, fun x => (h.2 x).mono (by omega)⟩
  | .acc _ _ _, _, _, h, hc => ⟨fun t => (h.1 t).mono (by omega), h.2.mono hc⟩
  | .look _ _ _, _, _, h, hc => ⟨h.1.mono hc, h.2.mono hc⟩
  | .look2 _ _ _ _, _, _, h, hc => ⟨h.1.mono hc, h.2.mono hc⟩
theorem fits_ite {o : Md} {b : Nat} {p : Prop} [Decidable p] {x y : PM} (hx : x.fits o b) (hy : y.fits o b) : (if p then x else y).fits o b := by
  split
  · exact hx
  · exact hy
def Fit (m : Md) (T : List Tok) : PR → Prop
  | .ok x R => R.length ≤ T.length ∧ m.wt x + m.slack ≤ 3 * (T.length - R.length) + m.held
  | _ => True
theorem exec_fits {o : Md} {rec : Md → List Tok → PR} (hr : ∀ m T, Fit m T (rec m T)) : ∀ (pm : PM) (b : Nat) (T : List Tok), pm.fits o b → ∀ x R, exec rec pm T = .ok x R → R.length ≤ T.length ∧ o.wt x + o.slack ≤ 3 * (T.length - R.length) + b
  | .ret y, b, T, h, x, R, he => by
    obtain ⟨rfl, rfl⟩ := PR.ok.inj he
    exact ⟨Nat.le_refl _, by have : o.wt y + o.slack ≤ b := h; omega⟩
  | .fail, _, _, _, _, _, he => by cases he
  | .call m k, b, T, h, x, R, he => by
    have h1 := hr m T
    rw [exec] at he
    cases hm : rec m T with
    | ok y S =>
      rw [hm] at he h1
      have h2 := exec_fits hr (k y) _ S (h.2 y) x R he
      have h3 : S.length ≤ T.length ∧ m.wt y + m.slack ≤ 3 * (T.length - S.length) + m.held := h1
      have := h.1
      omega
    | bad S => rw [hm] at he; cases he
    | out => rw [hm] at he; cases he
  | .acc p yes no, b, [], h, x, R, he => by cases he
  | .acc p yes no, b, t :: S, h, x, R, he => by
    rw [exec] at he
    split at he
    · have h2 := exec_fits hr (yes t) _ S (h.1 t) x R he
      rw [List.length_cons]
      omega
    · exact exec_fits hr no b (t :: S) h.2 x R he
  | .look p yes no, b, [], h, x, R, he => by cases he
  | .look p yes no, b, t :: S, h, x, R, he => by
    rw [exec] at he
    split at he
    · exact exec_fits hr yes b (t :: S) h.1 x R he
    · exact exec_fits hr no b (t :: S) h.2 x R he
  | .look2 p q yes no, b, [], h, x, R, he => by cases he
  | .look2 p q yes no, b, t :: S, h, x, R, he => by
    rw [exec] at he
    split at he
    · exact exec_fits hr yes b (t :: S) h.1 x R he
    · exact exec_fits hr no b (t :: S) h.2 x R he
theorem leafE_size (t : Tok) : (leafE t).size = 1 := by
  unfold leafE
  repeat' split
  all_goals rfl
theorem leafP_size (t : Tok) : (leafP t).size = 1 := by
  unfold leafP
  repeat' split
  all_goals rfl
theorem size_mk (h : Hd) (l : List Nd) (a : List (Nd × Nd)) : (Nd.mk h l a).size = 1 + sizeN l + sizeA a := rfl
theorem sizeN_cons (x : Nd) (l : List Nd) : sizeN (x :: l) = x.size + sizeN l := rfl
theorem sizeN_nil : sizeN [] = 0 := rfl
theorem sizeA_nil : sizeA [] = 0 := rfl
theorem sizeA_cons (p b : Nd) (l : List (Nd × Nd)) : sizeA ((p, b) :: l) = p.size + b.size + sizeA l := rfl
theorem args_mk (h : Hd) (l : List Nd) (a : List (Nd × Nd)) : (Nd.mk h l a).args = l := rfl
theorem arms_mk (h : Hd) (l : List Nd) (a : List (Nd × Nd)) : (Nd.mk h l a).arms = a := rfl
theorem step_fits (m : Md) : (step m).fits m m.held := by
  cases m
  case field b ls l =>
    cases b
    all_goals simp only [step, need, name, bound, recordB, withB, if_true, if_false, Bool.false_eq_true]
    all_goals repeat' first | exact trivial | apply fits_ite | apply And.intro | intro _
    all_goals (simp only [PM.fits, Md.held, Md.wt, Md.slack, node, nodeN, named, bag, size_mk, sizeN_cons, sizeN_nil, sizeA_nil, sizeA_cons, sizeN_append, sizeA_append, args_mk, arms_mk, leafE_size, leafP_size, if_true, if_false, Bool.false_eq_true]; try omega)
  all_goals simp only [step, need, name, bound, recordB, withB]
  all_goals repeat' first | exact trivial | apply fits_ite | apply And.intro | intro _
  all_goals (simp only [PM.fits, Md.held, Md.wt, Md.slack, node, nodeN, named, bag, size_mk, sizeN_cons, sizeN_nil, sizeA_nil, sizeA_cons, sizeN_append, sizeA_append, args_mk, arms_mk, leafE_size, leafP_size]; try omega)
theorem run_fits : ∀ (f : Nat) (m : Md) (T : List Tok), Fit m T (run f m T)
  | 0, _, _ => trivial
  | f + 1, m, T => by
    show Fit m T (exec (run f) (step m) T)
    cases h : exec (run f) (step m) T with
    | ok x R => exact exec_fits (run_fits f) (step m) m.held T (step_fits m) x R h
    | bad R => trivial
    | out => trivial
theorem tokV_size {T : List Tok} {x : Nd} {R : List Tok} (h : tokV T = .ok x R) : (x.parts 1).length ≤ 3 * (T.length - R.length) := by
  have h1 := run_fits (16 * T.length + 16) .text T
  rw [show run (16 * T.length + 16) .text T = .ok x R from h] at h1
  have h2 : x.size + 1 ≤ 3 * (T.length - R.length) + 0 := h1.2
  rw [size_parts]
  omega
end Go.Proofs.YthnefcodjkllgaaDoor
