/-
  Plain facts: a tree that is read has at most three parts for each token.
  Plain facts: each part's place in a tree that is read is that of a token that was taken.
  Plain facts: a text in round brackets says what it says without them, places aside.
  Plain facts: texts with like tokens are parsed alike; tokens' texts with blanks behind each.
  Plain facts: whether two trees are the same, places aside or not.
-/
import Derived.Test.YtecpldnjpapalaaDoorGTree
namespace Go.Proofs.YtecpldnjpapalaaDoor
section
set_option linter.unusedSimpArgs false
set_option linter.unusedVariables false
open Go.RowKit
mutual
def Nd.size : Nd → Nat
  | .mk _ l a => 1 + sizeN l + sizeA a
def sizeN : List Nd → Nat
  | [] => 0
  | x :: r => x.size + sizeN r
def sizeA : List (Nd × Nd) → Nat
  | [] => 0
  | (p, b) :: r => p.size + b.size + sizeA r
end
mutual
theorem size_parts (d : Nat) : ∀ x : Nd, (x.parts d).length = x.size
  | .mk h l a => by
    show ((h.pos, d) :: (partsN (d + 1) l ++ partsA (d + 1) a)).length = 1 + sizeN l + sizeA a
    rw [List.length_cons, List.length_append, sizeN_parts (d + 1) l, sizeA_parts (d + 1) a]
    omega
theorem sizeN_parts (d : Nat) : ∀ l : List Nd, (partsN d l).length = sizeN l
  | [] => rfl
  | x :: r => by
    show (x.parts d ++ partsN d r).length = x.size + sizeN r
    rw [List.length_append, size_parts d x, sizeN_parts d r]
theorem sizeA_parts (d : Nat) : ∀ l : List (Nd × Nd), (partsA d l).length = sizeA l
  | [] => rfl
  | (p, b) :: r => by
    show (p.parts d ++ (b.parts d ++ partsA d r)).length = p.size + b.size + sizeA r
    rw [List.length_append, List.length_append, size_parts d p, size_parts d b, sizeA_parts d r]
    omega
end
theorem sizeN_append (l r : List Nd) : sizeN (l ++ r) = sizeN l + sizeN r := by
  induction l with
  | nil => show sizeN r = 0 + sizeN r; omega
  | cons x l ih => show x.size + sizeN (l ++ r) = x.size + sizeN l + sizeN r; rw [ih]; omega
theorem sizeA_append (l r : List (Nd × Nd)) : sizeA (l ++ r) = sizeA l + sizeA r := by
  induction l with
  | nil => show sizeA r = 0 + sizeA r; omega
  | cons x l ih => show x.1.size + x.2.size + sizeA (l ++ r) = x.1.size + x.2.size + sizeA l + sizeA r; rw [ih]; omega
/-- What is held when the reading begins; what the answer weighs; what is left over. -/
def Md.held : Md → Nat
  | .lvl _ e | .apps e | .dots e => e.size
  | .posts _ l | .field _ _ l => sizeN l
  | .arms l => sizeA l
  | _ => 0
def Md.wt : Md → Nd → Nat
  | .posts _ _, x | .field _ _ _, x | .fields _, x => sizeN x.args
  | .arms _, x => sizeA x.arms
  | _, x => x.size
def Md.slack : Md → Nat
  | .lvl _ _ | .apps _ | .dots _ | .posts _ _ | .arms _ => 0
  | .fields _ | .field _ _ _ => 2
  | _ => 1
/-- The weights fit, when b has been paid so far; each token pays three. -/
def PM.fits (o : Md) : Nat → PM → Prop
  | b, .ret x => o.wt x + o.slack ≤ b
  | _, .fail => True
  | b, .call m k => m.held ≤ b ∧ ∀ x, PM.fits o (b - m.held + m.wt x + m.slack) (k x)
  | b, .acc _ yes no => (∀ t, PM.fits o (b + 3) (yes t)) ∧ PM.fits o b no
  | b, .look _ yes no => PM.fits o b yes ∧ PM.fits o b no
  | b, .look2 _ _ yes no => PM.fits o b yes ∧ PM.fits o b no
theorem PM.fits.mono {o : Md} : ∀ {pm : PM} {b c : Nat}, pm.fits o b → b ≤ c → pm.fits o c
  | .ret _, _, _, h, hc => Nat.le_trans h hc
  | .fail, _, _, _, _ => trivial
  | .call _ _, _, _, h, hc => ⟨Nat.le_trans h.1 hc, fun x => (h.2 x).mono (by omega)⟩
  | .acc _ _ _, _, _, h, hc => ⟨fun t => (h.1 t).mono (by omega), h.2.mono hc⟩
  | .look _ _ _, _, _, h, hc => ⟨h.1.mono hc, h.2.mono hc⟩
  | .look2 _ _ _ _, _, _, h, hc => ⟨h.1.mono hc, h.2.mono hc⟩
theorem fits_ite {o : Md} {b : Nat} {p : Prop} [Decidable p] {x y : PM} (hx : x.fits o b) (hy : y.fits o b) : (if p then x else y).fits o b := by
  split
  · exact hx
  · exact hy
def Fit (m : Md) (T : List Tok) : PR → Prop
  | .ok x R => R.length ≤ T.length ∧ m.wt x + m.slack ≤ 3 * (T.length - R.length) + m.held
  | _ => True
theorem exec_fits {o : Md} {rec : Md → List Tok → PR} (hr : ∀ m T, Fit m T (rec m T)) : ∀ (pm : PM) (b : Nat) (T : List Tok), pm.fits o b → ∀ x R, exec rec pm T = .ok x R → R.length ≤ T.length ∧ o.wt x + o.slack ≤ 3 * (T.length - R.length) + b
  | .ret y, b, T, h, x, R, he => by
    obtain ⟨rfl, rfl⟩ := PR.ok.inj he
    exact ⟨Nat.le_refl _, by have : o.wt y + o.slack ≤ b := h; omega⟩
  | .fail, _, _, _, _, _, he => by cases he
  | .call m k, b, T, h, x, R, he => by
    have h1 := hr m T
    rw [exec] at he
    cases hm : rec m T with
    | ok y S =>
      rw [hm] at he h1
      have h2 := exec_fits hr (k y) _ S (h.2 y) x R he
      have h3 : S.length ≤ T.length ∧ m.wt y + m.slack ≤ 3 * (T.length - S.length) + m.held := h1
      have := h.1
      omega
    | bad S => rw [hm] at he; cases he
    | out => rw [hm] at he; cases he
  | .acc p yes no, b, [], h, x, R, he => by cases he
  | .acc p yes no, b, t :: S, h, x, R, he => by
    rw [exec] at he
    split at he
    · have h2 := exec_fits hr (yes t) _ S (h.1 t) x R he
      rw [List.length_cons]
      omega
    · exact exec_fits hr no b (t :: S) h.2 x R he
  | .look p yes no, b, [], h, x, R, he => by cases he
  | .look p yes no, b, t :: S, h, x, R, he => by
    rw [exec] at he
    split at he
    · exact exec_fits hr yes b (t :: S) h.1 x R he
    · exact exec_fits hr no b (t :: S) h.2 x R he
  | .look2 p q yes no, b, [], h, x, R, he => by cases he
  | .look2 p q yes no, b, t :: S, h, x, R, he => by
    rw [exec] at he
    split at he
    · exact exec_fits hr yes b (t :: S) h.1 x R he
    · exact exec_fits hr no b (t :: S) h.2 x R he
theorem leafE_size (t : Tok) : (leafE t).size = 1 := by
  unfold leafE
  repeat' split
  all_goals rfl
theorem leafP_size (t : Tok) : (leafP t).size = 1 := by
  unfold leafP
  repeat' split
  all_goals rfl
theorem size_mk (h : Hd) (l : List Nd) (a : List (Nd × Nd)) : (Nd.mk h l a).size = 1 + sizeN l + sizeA a := rfl
theorem sizeN_cons (x : Nd) (l : List Nd) : sizeN (x :: l) = x.size + sizeN l := rfl
theorem sizeN_nil : sizeN [] = 0 := rfl
theorem sizeA_nil : sizeA [] = 0 := rfl
theorem sizeA_cons (p b : Nd) (l : List (Nd × Nd)) : sizeA ((p, b) :: l) = p.size + b.size + sizeA l := rfl
theorem args_mk (h : Hd) (l : List Nd) (a : List (Nd × Nd)) : (Nd.mk h l a).args = l := rfl
theorem arms_mk (h : Hd) (l : List Nd) (a : List (Nd × Nd)) : (Nd.mk h l a).arms = a := rfl
theorem step_fits (m : Md) : (step m).fits m m.held := by
  cases m
  case field b ls l =>
    cases b
    all_goals simp only [step, need, name, bound, recordB, withB, if_true, if_false, Bool.false_eq_true]
    all_goals repeat' first | exact trivial | apply fits_ite | apply And.intro | intro _
    all_goals (simp only [PM.fits, Md.held, Md.wt, Md.slack, node, nodeN, named, bag, size_mk, sizeN_cons, sizeN_nil, sizeA_nil, sizeA_cons, sizeN_append, sizeA_append, args_mk, arms_mk, leafE_size, leafP_size, if_true, if_false, Bool.false_eq_true]; try omega)
  all_goals simp only [step, need, name, bound, recordB, withB]
  all_goals repeat' first | exact trivial | apply fits_ite | apply And.intro | intro _
  all_goals (simp only [PM.fits, Md.held, Md.wt, Md.slack, node, nodeN, named, bag, size_mk, sizeN_cons, sizeN_nil, sizeA_nil, sizeA_cons, sizeN_append, sizeA_append, args_mk, arms_mk, leafE_size, leafP_size]; try omega)
theorem run_fits : ∀ (f : Nat) (m : Md) (T : List Tok), Fit m T (run f m T)
  | 0, _, _ => trivial
  | f + 1, m, T => by
    show Fit m T (exec (run f) (step m) T)
    cases h : exec (run f) (step m) T with
    | ok x R => exact exec_fits (run_fits f) (step m) m.held T (step_fits m) x R h
    | bad R => trivial
    | out => trivial
theorem tokV_size {T : List Tok} {x : Nd} {R : List Tok} (h : tokV T = .ok x R) : (x.parts 1).length ≤ 3 * (T.length - R.length) := by
  have h1 := run_fits (16 * T.length + 16) .text T
  rw [show run (16 * T.length + 16) .text T = .ok x R from h] at h1
  have h2 : x.size + 1 ≤ 3 * (T.length - R.length) + 0 := h1.2
  rw [size_parts]
  omega
end
section
set_option linter.unusedSimpArgs false
set_option linter.unusedVariables false
open Go.RowKit
mutual
def Nd.on (S : Int → Prop) : Nd → Prop
  | .mk h l a => S h.pos ∧ onN S l ∧ onA S a
def onN (S : Int → Prop) : List Nd → Prop
  | [] => True
  | x :: r => x.on S ∧ onN S r
def onA (S : Int → Prop) : List (Nd × Nd) → Prop
  | [] => True
  | (p, b) :: r => p.on S ∧ b.on S ∧ onA S r
end
section
variable {S : Int → Prop}
theorem on_mk (h : Hd) (l : List Nd) (a : List (Nd × Nd)) : (Nd.mk h l a).on S ↔ S h.pos ∧ onN S l ∧ onA S a := Iff.rfl
theorem onN_nil : onN S [] ↔ True := Iff.rfl
theorem onN_cons (x : Nd) (r : List Nd) : onN S (x :: r) ↔ x.on S ∧ onN S r := Iff.rfl
theorem onA_nil : onA S [] ↔ True := Iff.rfl
theorem onA_cons (p b : Nd) (r : List (Nd × Nd)) : onA S ((p, b) :: r) ↔ p.on S ∧ b.on S ∧ onA S r := Iff.rfl
theorem onN_append (l r : List Nd) : onN S (l ++ r) ↔ onN S l ∧ onN S r := by
  induction l with
  | nil => show onN S r ↔ True ∧ onN S r; simp
  | cons x l ih => show x.on S ∧ onN S (l ++ r) ↔ (x.on S ∧ onN S l) ∧ onN S r; rw [ih, and_assoc]
theorem onA_append (l r : List (Nd × Nd)) : onA S (l ++ r) ↔ onA S l ∧ onA S r := by
  induction l with
  | nil => show onA S r ↔ True ∧ onA S r; simp
  | cons x l ih => show x.1.on S ∧ x.2.on S ∧ onA S (l ++ r) ↔ (x.1.on S ∧ x.2.on S ∧ onA S l) ∧ onA S r; rw [ih]; simp [and_assoc]
theorem on_pos {x : Nd} (h : x.on S) : S x.hd.pos := by cases x; exact h.1
mutual
theorem on_parts (d : Nat) : ∀ {x : Nd}, x.on S → ∀ t ∈ x.parts d, S t.1
  | .mk h l a, hx, t, ht => by
    have ht : t ∈ (h.pos, d) :: (partsN (d + 1) l ++ partsA (d + 1) a) := ht
    simp only [List.mem_cons, List.mem_append] at ht
    rcases ht with rfl | ht | ht
    · exact hx.1
    · exact onN_parts (d + 1) hx.2.1 t ht
    · exact onA_parts (d + 1) hx.2.2 t ht
theorem onN_parts (d : Nat) : ∀ {l : List Nd}, onN S l → ∀ t ∈ partsN d l, S t.1
  | [], _, t, ht => by cases ht
  | x :: r, hx, t, ht => by
    have ht : t ∈ x.parts d ++ partsN d r := ht
    rcases List.mem_append.1 ht with ht | ht
    · exact on_parts d hx.1 t ht
    · exact onN_parts d hx.2 t ht
theorem onA_parts (d : Nat) : ∀ {l : List (Nd × Nd)}, onA S l → ∀ t ∈ partsA d l, S t.1
  | [], _, t, ht => by cases ht
  | (p, b) :: r, hx, t, ht => by
    have ht : t ∈ p.parts d ++ (b.parts d ++ partsA d r) := ht
    rcases List.mem_append.1 ht with ht | ht
    · exact on_parts d hx.1 t ht
    · rcases List.mem_append.1 ht with ht | ht
      · exact on_parts d hx.2.1 t ht
      · exact onA_parts d hx.2.2 t ht
end
/-- What is held when the reading begins, and what the answer gives, lies at such places. -/
def Md.holds (S : Int → Prop) : Md → Prop
  | .letb t | .cases _ t | .choice t | .braces t => S t.2
  | .arms l => onA S l
  | .lvl _ e | .apps e | .dots e => e.on S
  | .posts _ l | .field _ _ l => onN S l
  | _ => True
def Md.gives (S : Int → Prop) : Md → Nd → Prop
  | .posts _ _, x | .field _ _ _, x | .fields _, x => onN S x.args
  | .arms _, x => onA S x.arms
  | _, x => x.on S
def PM.placed (S : Int → Prop) (o : Md) : PM → Prop
  | .ret x => o.gives S x
  | .fail => True
  | .call m k => m.holds S ∧ ∀ x, m.gives S x → PM.placed S o (k x)
  | .acc p yes no => Ends p ∧ (∀ t : Tok, S t.2 → PM.placed S o (yes t)) ∧ PM.placed S o no
  | .look _ yes no => PM.placed S o yes ∧ PM.placed S o no
  | .look2 _ _ yes no => PM.placed S o yes ∧ PM.placed S o no
theorem placed_ite {o : Md} {p : Prop} [Decidable p] {x y : PM} (hx : x.placed S o) (hy : y.placed S o) : (if p then x else y).placed S o := by
  split
  · exact hx
  · exact hy
theorem leafE_on {t : Tok} (h : S t.2) : (leafE t).on S := by
  unfold leafE
  repeat' split
  all_goals exact ⟨h, trivial, trivial⟩
theorem leafP_on {t : Tok} (h : S t.2) : (leafP t).on S := by
  unfold leafP
  repeat' split
  all_goals exact ⟨h, trivial, trivial⟩
theorem args_mk' (h : Hd) (l : List Nd) (a : List (Nd × Nd)) : (Nd.mk h l a).args = l := rfl
theorem arms_mk' (h : Hd) (l : List Nd) (a : List (Nd × Nd)) : (Nd.mk h l a).arms = a := rfl
theorem step_placed (m : Md) (hm : m.holds S) : (step m).placed S m := by
  cases m
  case field b ls l =>
    cases b
    all_goals simp only [step, need, name, bound, recordB, withB, if_true, if_false, Bool.false_eq_true]
    all_goals simp only [PM.placed, Md.holds, Md.gives] at hm ⊢
    all_goals refine ⟨ends_kind (by decide), fun t ht => ⟨ends_one _, fun u hu => ⟨trivial, fun v hv => ⟨ends_one _, fun z hz => ?_, trivial⟩⟩, trivial⟩, trivial⟩
    all_goals refine placed_ite ?_ ⟨?_, fun x hx => hx⟩
    all_goals (simp only [Md.holds, bag]; exact (onN_append _ _).2 ⟨hm, hv, trivial⟩)
  all_goals simp only [step, need, name, bound, recordB, withB]
  all_goals simp only [Md.holds] at hm
  all_goals repeat' first | exact trivial | exact ends_one _ | exact ends_leaf | exact ends_kind (by decide) | exact ends_begins | apply placed_ite | (show _ ∧ _; apply And.intro) | (show ∀ _, _; intro _)
  all_goals (try simp only [PM.placed, Md.holds, Md.gives, node, nodeN, named, bag, on_mk, onN_cons, onN_nil, onA_nil, onA_cons, onN_append, onA_append, args_mk', arms_mk'] at *)
  all_goals (try trivial)
  all_goals first | assumption | exact leafE_on ‹_› | exact leafP_on ‹_› | simp_all [on_pos]
/-- What stays: the tokens to come, too, lie at such places. -/
def Lies (S : Int → Prop) (T : List Tok) : Prop := ∀ t ∈ T, t.1.kind ≠ 0 → S t.2
theorem exec_placed {o : Md} {rec : Md → List Tok → PR} (hr : ∀ m T x R, m.holds S → Lies S T → rec m T = .ok x R → m.gives S x ∧ Lies S R) : ∀ (pm : PM) (T : List Tok), pm.placed S o → Lies S T → ∀ x R, exec rec pm T = .ok x R → o.gives S x ∧ Lies S R
  | .ret y, T, h, hT, x, R, he => by
    obtain ⟨rfl, rfl⟩ := PR.ok.inj he
    exact ⟨h, hT⟩
  | .fail, _, _, _, _, _, he => by cases he
  | .call m k, T, h, hT, x, R, he => by
    rw [exec] at he
    cases hm : rec m T with
    | ok y U =>
      rw [hm] at he
      obtain ⟨h1, h2⟩ := hr m T y U h.1 hT hm
      exact exec_placed hr (k y) U (h.2 y h1) h2 x R he
    | bad U => rw [hm] at he; cases he
    | out => rw [hm] at he; cases he
  | .acc p yes no, [], h, hT, x, R, he => by cases he
  | .acc p yes no, t :: U, h, hT, x, R, he => by
    rw [exec] at he
    split at he
    · rename_i hp
      exact exec_placed hr (yes t) U (h.2.1 t (hT t (by simp) (h.1 t hp))) (fun u hu => hT u (by simp [hu])) x R he
    · exact exec_placed hr no (t :: U) h.2.2 hT x R he
  | .look p yes no, [], h, hT, x, R, he => by cases he
  | .look p yes no, t :: U, h, hT, x, R, he => by
    rw [exec] at he
    split at he
    · exact exec_placed hr yes (t :: U) h.1 hT x R he
    · exact exec_placed hr no (t :: U) h.2 hT x R he
  | .look2 p q yes no, [], h, hT, x, R, he => by cases he
  | .look2 p q yes no, t :: U, h, hT, x, R, he => by
    rw [exec] at he
    split at he
    · exact exec_placed hr yes (t :: U) h.1 hT x R he
    · exact exec_placed hr no (t :: U) h.2 hT x R he
theorem run_placed : ∀ (f : Nat) (m : Md) (T : List Tok) (x : Nd) (R : List Tok), m.holds S → Lies S T → run f m T = .ok x R → m.gives S x ∧ Lies S R
  | 0, _, _, _, _, _, _, h => by cases h
  | f + 1, m, T, x, R, h, hT, he => exec_placed (fun m T x R h hT he => run_placed f m T x R h hT he) (step m) T (step_placed m h) hT x R he
end
/-- Each part of a tree that is read lies where a token of the text lies. -/
theorem tokV_places {T : List Tok} {x : Nd} {R : List Tok} (h : tokV T = .ok x R) : ∀ t ∈ x.parts 1, ∃ u ∈ T, t.1 = (u.2 : Int) ∧ u.1.kind ≠ 0 :=
  on_parts 1 (run_placed (S := fun p => ∃ u ∈ T, p = (u.2 : Int) ∧ u.1.kind ≠ 0) _ .text T x R trivial (fun u hu hk => ⟨u, hu, rfl, hk⟩) h).1
theorem deep_mem {most : Int} {x : Nd} {q : Int} (h : deepV most x = some q) : ∃ t ∈ x.parts 1, t.1 = q ∧ most < (t.2 : Int) := by
  unfold deepV at h
  cases hf : (x.parts 1).find? fun t => decide (most < (t.2 : Int)) with
  | none => rw [hf] at h; cases h
  | some t =>
    rw [hf] at h
    exact ⟨t, List.mem_of_find?_eq_some hf, Option.some.inj h, by simpa using List.find?_some hf⟩
theorem deep_nat {T : List Tok} {x : Nd} {R : List Tok} (h : tokV T = .ok x R) {most q : Int} (hq : deepV most x = some q) : ∃ n : Nat, q = (n : Int) := by
  obtain ⟨t, h1, rfl, _⟩ := deep_mem hq
  obtain ⟨u, _, h2, _⟩ := tokV_places h t h1
  exact ⟨u.2, h2⟩
end
section
open Go.RowKit
theorem sign_tails : ∀ s ∈ signL, ∀ c ∈ s.tail, c ≠ 41 := by decide
theorem prefix_stop41 : ∀ (s l m : List UInt8), (∀ c ∈ s, c ≠ 41) → s.isPrefixOf (l ++ 41 :: m) = s.isPrefixOf l
  | [], l, m, _ => by simp
  | c :: s, [], m, h => by
    have : c ≠ 41 := h c (by simp)
    show ((c == 41) && s.isPrefixOf m) = false
    rw [beq_eq_false_iff_ne.2 this]; rfl
  | c :: s, d :: l, m, h => by
    show ((c == d) && s.isPrefixOf (l ++ 41 :: m)) = ((c == d) && s.isPrefixOf l)
    rw [prefix_stop41 s l m fun x hx => h x (by simp [hx])]
theorem signTok_stop41 (d : UInt8) (l m : List UInt8) : signTok (d :: l ++ 41 :: m) = signTok (d :: l) := by
  unfold signTok
  rw [find_same _ (·.isPrefixOf (d :: l)) signL fun s hs => by
    cases s with
    | nil => simp
    | cons c s =>
      show ((c == d) && s.isPrefixOf (l ++ 41 :: m)) = ((c == d) && s.isPrefixOf l)
      rw [prefix_stop41 s l m fun x hx => sign_tails _ hs x hx]]
theorem nameOf_stop41 (l m : List UInt8) : nameOf (l ++ 41 :: m) = nameOf l := by
  induction l with
  | nil => exact nameOf_not (by decide) m
  | cons c r ih =>
    by_cases hc : isBody c = true
    · rw [List.cons_append, nameOf_cons hc, nameOf_cons hc, ih]
    · rw [List.cons_append, nameOf_not (by simpa using hc), nameOf_not (by simpa using hc)]
theorem tagTok_stop41 (r m : List UInt8) : tagTok (r ++ 41 :: m) = tagTok r := by
  unfold tagTok
  rw [nameOf_stop41]
  have : (r ++ 41 :: m).head?.any isUp = r.head?.any isUp := by
    cases r with
    | nil => rfl
    | cons c r => rfl
  rw [this]
theorem oneV_stop41 {l : List UInt8} (m : List UInt8) (hl : l ≠ []) (hq : qsize (l ++ 41 :: m) = qsize l ∨ l.head? ≠ some 34) : oneV (l ++ 41 :: m) = oneV l := by
  cases l with
  | nil => exact absurd rfl hl
  | cons c r =>
    have hn := nameOf_stop41 (c :: r) m
    have hs := signTok_stop41 c r m
    have ht := tagTok_stop41 r m
    rw [List.cons_append] at hn hs hq ⊢
    rw [oneV_cons, oneV_cons, hn, hs, ht]
    have hi : intTok (c :: (r ++ 41 :: m)) = intTok (c :: r) := by unfold intTok; rw [hn]
    rw [hi]
    by_cases h34 : c = 34
    · subst h34
      rcases hq with hq | hq
      · have := strTok_same (l := 34 :: r) (m := 41 :: m) hq
        rw [List.cons_append] at this
        rw [this]
      · exact absurd rfl hq
    · rw [if_neg h34, if_neg h34]
theorem oneV_more41 {l : List UInt8} {t : TK} {n : Nat} (h : oneV l = .tok t n) (m : List UInt8) : oneV (l ++ 41 :: m) = .tok t n := by
  have hl : l ≠ [] := fun e => by rw [e] at h; cases h
  rw [← h]
  by_cases h34 : l.head? = some 34
  · exact oneV_stop41 m hl (.inl (qsize_more _ hl (oneV_quote h h34)))
  · exact oneV_stop41 m hl (.inr h34)
/-- A closing bracket behind a text. -/
theorem lexGo_two41 (m : List UInt8) (p : Nat) (l : List UInt8) : ∀ T, lexGo p 0 l = .ok T → lexGo p 0 (l ++ 41 :: m) = (lexGo (p + l.length) 0 (41 :: m)).add T := by
  refine lexGo_ind (fun p l => ∀ T, lexGo p 0 l = .ok T → lexGo p 0 (l ++ 41 :: m) = (lexGo (p + l.length) 0 (41 :: m)).add T) ?_ ?_ ?_ ?_ l.length p l (Nat.le_refl _)
  · intro p T h
    obtain rfl : [] = T := LR.ok.inj h
    show lexGo p 0 (41 :: m) = (lexGo p 0 (41 :: m)).add []
    cases lexGo p 0 (41 :: m) <;> rfl
  · intro p c r hc ih T h
    rw [lexGo_blank hc] at h
    rw [List.cons_append, lexGo_blank hc, ih T h, List.length_cons]
    congr 2; omega
  · intro p c r e hc h T hT
    rw [lexGo_err hc _ h] at hT
    cases hT
  · intro p c r t n hc h ih T hT
    rw [lexGo_tok hc _ h] at hT
    obtain ⟨U, hU, rfl⟩ := LR.add_ok hT
    have h2 := oneV_more41 h m
    obtain ⟨_, h3, _⟩ := oneV_tok h
    rw [List.cons_append] at h2
    have h4 : (c :: (r ++ 41 :: m)).drop n = (c :: r).drop n ++ 41 :: m := by
      rw [← List.cons_append, List.drop_append_of_le_length h3]
    rw [List.cons_append, lexGo_tok hc _ h2, h4, ih U hU, LR.add_add]
    congr 2
    rw [List.length_drop]; omega
theorem lexGo_shut (p : Nat) (l : List UInt8) : lexGo p 0 (41 :: l) = (lexGo (p + 1) 0 l).add [(⟨7, sShut, 0⟩, p)] := by
  have h : oneV (41 :: l) = .tok ⟨7, sShut, 0⟩ 1 := by
    rw [oneV_cons, if_neg (by decide), if_neg (by decide), if_neg (by decide), if_neg (by decide), if_neg (by decide)]
    unfold signTok
    have : signL.find? (·.isPrefixOf (41 :: l)) = some [41] := by
      unfold signL
      simp [List.isPrefixOf, List.find?]
    rw [this]; rfl
  rw [lexGo_tok (by decide) _ h]; rfl
abbrev openT (q : Nat) : Tok := (⟨7, sOpen, 0⟩, q)
abbrev shutT (q : Nat) : Tok := (⟨7, sShut, 0⟩, q)
/-- The tokens of a text in brackets. -/
theorem lexGo_wrap (p : Nat) (l m : List UInt8) {T : List Tok} (h : lexGo 0 0 l = .ok T) : lexGo p 0 (40 :: (l ++ 41 :: m)) = (lexGo (p + l.length + 2) 0 m).add (openT p :: (T.map (fun t => (t.1, t.2 + (p + 1))) ++ [shutT (p + l.length + 1)])) := by
  have h1 := lexGo_shift (p + 1) 0 l
  rw [h, Nat.zero_add] at h1
  rw [lexGo_open, lexGo_two41 m (p + 1) l _ h1, lexGo_shut, LR.add_add, LR.add_add]
  rw [show p + 1 + l.length = p + l.length + 1 by omega]
  rfl
/-- Nothing begins with a closing bracket. -/
def PM.balk : PM → Prop
  | .ret _ => False
  | .fail => True
  | .call m _ => m.chain = true
  | .acc p _ no => (∀ c, isShut c → p c = false) ∧ no.balk
  | .look p _ no => (∀ c, isShut c → p c = false) ∧ no.balk
  | .look2 _ _ _ _ => False
theorem step_balk (m : Md) (h : m.chain = true) : (step m).balk := by
  cases m <;> first | (cases h; done) | simp only [step, need]
  case level n => split <;> rfl
  case atom => exact ⟨shut_leaf, shut_one (by decide), trivial⟩
  case item => exact ⟨shut_one (by decide), shut_one (by decide), rfl⟩
  case unary => exact ⟨shut_one (by decide), rfl⟩
  case app => exact ⟨shut_kind (by decide) (by decide), shut_one (by decide), shut_one (by decide), shut_one (by decide), rfl⟩
  case post => exact ⟨shut_one (by decide), rfl⟩
  all_goals rfl
theorem exec_balk {rec : Md → List Tok → PR} {c : Tok} {R : List Tok} (hc : isShut c) (hm : ∀ m, m.chain = true → ∀ x Q, rec m (c :: R) ≠ .ok x Q) : ∀ (pm : PM), pm.balk → ∀ x Q, exec rec pm (c :: R) ≠ .ok x Q
  | .ret _, h => h.elim
  | .fail, _ => fun x Q h => by cases h
  | .call m k, h => fun x Q h1 => by
    rw [exec] at h1
    cases hx : rec m (c :: R) with
    | ok y S => exact hm m h y S hx
    | bad S => rw [hx] at h1; cases h1
    | out => rw [hx] at h1; cases h1
  | .acc p yes no, h => by
    rw [exec, if_neg (by rw [h.1 c hc]; decide)]
    exact exec_balk hc hm no h.2
  | .look p yes no, h => by
    rw [exec, if_neg (by rw [h.1 c hc]; decide)]
    exact exec_balk hc hm no h.2
  | .look2 _ _ _ _, h => h.elim
theorem run_balk {c : Tok} (hc : isShut c) : ∀ (f : Nat) (m : Md) (R : List Tok), m.chain = true → ∀ x Q, run f m (c :: R) ≠ .ok x Q
  | 0, _, _, _ => fun x Q h => by cases h
  | f + 1, m, R, h => exec_balk hc (fun m' h' => run_balk hc f m' R h') (step m) (step_balk m h)
theorem shutT_is (q : Nat) : isShut (shutT q) := rfl
/-- What stands in brackets, as an operand. -/
theorem run_atom {f : Nat} {X Z : List Tok} {x : Nd} (p q : Nat) (h : run f .seq (X ++ shutT q :: Z) = .ok x (shutT q :: Z)) : run (f + 1) .atom (openT p :: (X ++ shutT q :: Z)) = .ok x Z := by
  have hX : ∃ t X', X ++ shutT q :: Z = t :: X' ∧ isOne [sShut] t = false := by
    cases X with
    | nil => exact absurd h (run_balk (shutT_is q) f .seq Z rfl _ _)
    | cons t X =>
      refine ⟨t, X ++ shutT q :: Z, rfl, ?_⟩
      cases ht : isOne [sShut] t with
      | false => rfl
      | true => exact absurd h (run_balk ht f .seq (X ++ shutT q :: Z) rfl _ _)
  obtain ⟨t, X', h1, h2⟩ := hX
  rw [run_succ]
  rw [h1] at h ⊢
  have e1 : isLeaf (openT p) = false := rfl
  have e2 : isOne [sOpen, sCurl] (openT p) = true := rfl
  have e3 : ¬ (openT p).1.text = sCurl := show ¬ sOpen = sCurl by decide
  have e4 : isOne [sShut] (shutT q) = true := rfl
  simp only [step, need, exec, e1, e2, if_neg e3, h2, h, e4, if_true, Bool.false_eq_true, if_false]
/-- Nothing of an operand's comes behind it. -/
structure Stops (u : Tok) : Prop where
  dot : isOne [sDot] u = false
  begin_ : begins u = false
theorem run_post {f : Nat} {X Z : List Tok} {u : Tok} {x : Nd} {p q : Nat} (h : run (f + 1) .atom (openT p :: (X ++ shutT q :: u :: Z)) = .ok x (u :: Z)) (hu : Stops u) : run (f + 4) .unary (openT p :: (X ++ shutT q :: u :: Z)) = .ok x (u :: Z) := by
  have a1 : isOne [sBang] (openT p) = false := rfl
  have a2 : isKind 3 (openT p) = false := rfl
  have a3 : isOne word1 (openT p) = false := rfl
  have a4 : isOne word2 (openT p) = false := rfl
  have a5 : isOne word3 (openT p) = false := rfl
  have a6 : isOne [sMinus, sNot] (openT p) = false := rfl
  have d : run (f + 1) (.dots x) (u :: Z) = .ok x (u :: Z) := by
    rw [run_succ]
    simp only [step, exec, hu.dot, Bool.false_eq_true, if_false]
  have h2 : run (f + 2) .post (openT p :: (X ++ shutT q :: u :: Z)) = .ok x (u :: Z) := by
    rw [run_succ]
    simp only [step, exec, a1, Bool.false_eq_true, if_false, h, d]
  have g : run (f + 2) (.apps x) (u :: Z) = .ok x (u :: Z) := by
    rw [run_succ]
    simp only [step, exec, hu.begin_, Bool.false_eq_true, if_false]
  have h3 : run (f + 3) .app (openT p :: (X ++ shutT q :: u :: Z)) = .ok x (u :: Z) := by
    rw [run_succ]
    simp only [step, exec, a2, a3, a4, a5, Bool.false_eq_true, if_false, h2, g]
  rw [run_succ]
  simp only [step, exec, a6, Bool.false_eq_true, if_false, h3]
/-- The levels below an operand, as far as no sign of theirs comes. -/
theorem run_down {f : Nat} {T Z : List Tok} {u : Tok} {x : Nd} (h : run f .unary T = .ok x (u :: Z)) : ∀ (k n : Nat), n + k = 5 → (∀ j, n ≤ j → j < 5 → isOne (signsOf j) u = false) → run (f + 1 + k) (.level n) T = .ok x (u :: Z)
  | 0, n, hn, _ => by
    rw [Nat.add_zero, run_succ]
    simp only [step, if_pos (show 5 ≤ n by omega), exec, h]
  | k + 1, n, hn, hs => by
    have h1 := run_down h k (n + 1) (by omega) (fun j h1 h2 => hs j (by omega) h2)
    have h2 : run (f + 1 + k) (.lvl n x) (u :: Z) = .ok x (u :: Z) := by
      rw [show f + 1 + k = (f + k) + 1 by omega, run_succ]
      simp only [step, exec, hs n (Nat.le_refl _) (by omega), Bool.false_eq_true, if_false]
    rw [show f + 1 + (k + 1) = (f + 1 + k) + 1 by omega, run_succ]
    simp only [step, if_neg (show ¬ 5 ≤ n by omega), exec, h1, h2]
theorem end_one_not {e : Tok} (he : e.1.kind = 0) (l : List (List UInt8)) : isOne l e = false := by
  cases h : isOne l e with
  | false => rfl
  | true => exact absurd he (ends_one l e h)
theorem end_stops {e : Tok} (he : e.1.kind = 0) : Stops e := ⟨end_one_not he _, by
  cases h : begins e with
  | false => rfl
  | true => exact absurd he (ends_begins e h)⟩
/-- From level 0 on to the whole. -/
theorem run_whole {f : Nat} {T Z : List Tok} {t e : Tok} {x : Nd} (he : e.1.kind = 0) (h1 : isOne [sFun] t = false) (h2 : isOne [sLet, sMatch, sTry, sIf, sRaise] t = false) (h : run f (.level 0) (t :: T) = .ok x (e :: Z)) : run (f + 4) .text (t :: T) = .ok x (e :: Z) := by
  have a1 : run (f + 1) .asg (t :: T) = .ok x (e :: Z) := by
    rw [run_succ]
    simp only [step, exec, h, end_one_not he, Bool.false_eq_true, if_false]
  have a2 : run (f + 2) .item (t :: T) = .ok x (e :: Z) := by
    rw [run_succ]
    simp only [step, exec, h1, h2, Bool.false_eq_true, if_false, a1]
  have a3 : run (f + 3) .seq (t :: T) = .ok x (e :: Z) := by
    rw [run_succ]
    simp only [step, exec, a2, end_one_not he, Bool.false_eq_true, if_false]
  have a4 : isKind 0 e = true := decide_eq_true he
  rw [run_succ]
  simp only [step, exec, a3, a4, if_true]
/-- What a whole text says, its items say. -/
theorem text_seq {f : Nat} {T : List Tok} {x : Nd} {R : List Tok} (h : run (f + 1) .text T = .ok x R) : run f .seq T = .ok x R := by
  rw [run_succ] at h
  simp only [step, exec] at h
  cases hx : run f .seq T with
  | ok y S =>
    rw [hx] at h
    cases S with
    | nil => cases h
    | cons v S =>
      simp only at h
      split at h
      · exact h
      · cases h
  | bad S => rw [hx] at h; cases h
  | out => rw [hx] at h; cases h
/-- Places aside, tokens that are alike are read alike. -/
theorem run_like {f : Nat} {m : Md} (hm : m.er = m) {T U : List Tok} (h : T.map er = U.map er) : (run f m T).er = (run f m U).er := by
  have h1 := run_alike f m T
  have h2 := run_alike f m U
  rw [hm] at h1 h2
  rw [← h1, ← h2, h]
theorem like_ok {f : Nat} {m : Md} (hm : m.er = m) {T U : List Tok} (h : T.map er = U.map er) {x : Nd} {R : List Tok} (hr : run f m T = .ok x R) : ∃ y S, run f m U = .ok y S ∧ y.er = x.er ∧ S.map er = R.map er := by
  have h1 := run_like (f := f) hm h
  rw [hr] at h1
  cases hu : run f m U with
  | ok y S =>
    rw [hu] at h1
    obtain ⟨h2, h3⟩ := PR.ok.inj h1
    exact ⟨y, S, rfl, h2.symm, h3.symm⟩
  | bad S => rw [hu] at h1; cases h1
  | out => rw [hu] at h1; cases h1
mutual
/-- The number of parts and their depths are the same, places aside. -/
theorem Nd.parts_er (d : Nat) : ∀ x : Nd, (x.er.parts d).map (·.2) = (x.parts d).map (·.2)
  | .mk h l a => by
    show d :: (partsN (d + 1) (ersN l) ++ partsA (d + 1) (ersA a)).map (·.2) = d :: (partsN (d + 1) l ++ partsA (d + 1) a).map (·.2)
    rw [List.map_append, List.map_append, partsN_er (d + 1) l, partsA_er (d + 1) a]
theorem partsN_er (d : Nat) : ∀ l : List Nd, (partsN d (ersN l)).map (·.2) = (partsN d l).map (·.2)
  | [] => rfl
  | x :: r => by
    show (x.er.parts d ++ partsN d (ersN r)).map (·.2) = (x.parts d ++ partsN d r).map (·.2)
    rw [List.map_append, List.map_append, Nd.parts_er d x, partsN_er d r]
theorem partsA_er (d : Nat) : ∀ l : List (Nd × Nd), (partsA d (ersA l)).map (·.2) = (partsA d l).map (·.2)
  | [] => rfl
  | (p, b) :: r => by
    show (p.er.parts d ++ (b.er.parts d ++ partsA d (ersA r))).map (·.2) = (p.parts d ++ (b.parts d ++ partsA d r)).map (·.2)
    rw [List.map_append, List.map_append, List.map_append, List.map_append, Nd.parts_er d p, Nd.parts_er d b, partsA_er d r]
end
theorem find_map_none {l m : List (Int × Nat)} (p : Nat → Bool) (h : l.map (·.2) = m.map (·.2)) : (l.find? fun t => p t.2).isNone = (m.find? fun t => p t.2).isNone := by
  induction l generalizing m with
  | nil => cases m with
    | nil => rfl
    | cons b m => cases h
  | cons a l ih => cases m with
    | nil => cases h
    | cons b m =>
      simp only [List.map_cons, List.cons.injEq] at h
      rw [List.find?_cons, List.find?_cons, h.1]
      cases p b.2 with
      | true => rfl
      | false => exact ih h.2
/-- What is made of trees that are alike: the same, places aside. -/
inductive PV.Like : PV → PV → Prop
  | ok {x y : Nd} (h : x.er = y.er) : PV.Like (.ok x) (.ok y)
  | bad (e : Int) (p q : Nat) : PV.Like (.bad e p) (.bad e q)
theorem treeV_like {x y : Nd} (h : x.er = y.er) : (treeV x).Like (treeV y) := by
  have h1 : (x.parts 1).map (·.2) = (y.parts 1).map (·.2) := by rw [← Nd.parts_er, h, Nd.parts_er]
  have h2 : (x.parts 1).length = (y.parts 1).length := by simpa using congrArg List.length h1
  have h3 := find_map_none (fun k => decide ((200 : Int) < (k : Int))) h1
  unfold treeV
  rw [h2]
  split
  · exact .bad _ _ _
  · unfold deepV
    cases hx : (x.parts 1).find? fun t => decide ((200 : Int) < (t.2 : Int)) with
    | none =>
      rw [hx] at h3
      cases hy : (y.parts 1).find? fun t => decide ((200 : Int) < (t.2 : Int)) with
      | none => exact .ok h
      | some b => rw [hy] at h3; cases h3
    | some a =>
      rw [hx] at h3
      cases hy : (y.parts 1).find? fun t => decide ((200 : Int) < (t.2 : Int)) with
      | none => rw [hy] at h3; cases h3
      | some b => exact .bad _ _ _
theorem shut_er_map (d : Nat) (T : List Tok) : (T.map fun t => ((t.1, t.2 + d) : Tok)).map er = T.map er := by
  rw [List.map_map]; rfl
/-- A right text in round brackets. -/
theorem parse_brackets {l : List UInt8} {x : Nd} (h : ParseV l = .ok x) (hl : l.length + 2 ≤ 4096) : ∃ y, ParseV (40 :: (l ++ [41])) = .ok y ∧ y.er = x.er := by
  rcases parseV_form l with ⟨e, q', h1, h2⟩ | ⟨X, hX, hl, hV, ⟨z, hz, h2⟩ | ⟨A, t, B, hT, hv, h2⟩⟩
  · rw [h2] at h; cases h
  · rw [h2] at h
    have h3 := lexGo_wrap 0 l [] hX
    rw [lexGo_nil] at h3
    have h3 : lexGo 0 0 (40 :: (l ++ [41])) = .ok ((openT 0 :: (X.map (fun t => (t.1, t.2 + (0 + 1))) ++ [shutT (0 + l.length + 1)])) ++ []) := h3
    rw [List.append_nil] at h3
    have hlen : (40 :: (l ++ [41])).length = l.length + 2 := by simp
    have h4 := lexV_ok h3 (by omega)
    have h5 := text_seq hz
    obtain ⟨y, S, h6, h7, h8⟩ := like_ok (m := .seq) rfl (T := X ++ [endT l.length]) (U := X.map (fun t => ((t.1, t.2 + (0 + 1)) : Tok)) ++ [endT (l.length + 2)]) (by rw [List.map_append, List.map_append, shut_er_map]; rfl) h5
    obtain ⟨s, rfl⟩ : ∃ s, S = [s] := by
      have := congrArg List.length h8
      simp only [List.length_map, List.length_cons, List.length_nil] at this
      exact List.length_eq_one_iff.1 this
    have h9 := run_took (16 * (X ++ [endT l.length]).length + 15) .seq (X.map (fun t => ((t.1, t.2 + (0 + 1)) : Tok)) ++ [endT (l.length + 2)])
    rw [h6] at h9
    obtain ⟨P, hP, hPn, _⟩ := h9
    obtain ⟨rfl, rfl⟩ := end_one hP
    have h10 := run_shuts (e := endT (l.length + 2)) (c := shutT (0 + l.length + 1)) [endT (l.length + 2)] rfl (shutT_is _) _ .seq _ (fun h => by cases h) y [] h6
    have h11 := run_atom 0 (0 + l.length + 1) h10
    have h12 := run_post h11 (end_stops rfl)
    have h13 := run_down h12 5 0 rfl (fun j _ _ => end_one_not rfl _)
    have h14 := run_whole (t := openT 0) rfl rfl rfl h13
    have hx := toks_row h3
    have h15 : run (16 * (X ++ [endT l.length]).length + 15 + 4 + 1 + 5 + 4) .text (openT 0 :: (X.map (fun t => ((t.1, t.2 + (0 + 1)) : Tok)) ++ [shutT (0 + l.length + 1)]) ++ [endT (l.length + 2)]) = .ok y [endT (l.length + 2)] := by
      rw [List.cons_append, List.append_assoc]; exact h14
    have h15 := tokV_of (row_of hx (l.length + 2)) h15 (fun h => by cases h)
    have hzx : z = x := by
      rcases treeV_form z with h3 | h3 | ⟨_, h3⟩ <;> rw [h3] at h <;> cases h
      rfl
    subst hzx
    refine ⟨y, ?_, h7⟩
    have h16 : ParseV (40 :: (l ++ [41])) = treeV y := by
      unfold ParseV
      rw [h4, hlen]
      simp only [h15]
    rw [h16]
    have h17 := treeV_like h7.symm
    rw [h] at h17
    rcases treeV_form y with h18 | h18 | ⟨_, h18⟩
    · exact h18
    · rw [h18] at h17; cases h17
    · rw [h18] at h17; cases h17
  · rw [h2] at h; cases h
end
section
open Go.RowKit
/-- All tokens' texts, a blank and a line's end behind each. -/
def spaced2 (T : List TK) : List UInt8 := T.flatMap fun t => tokText t ++ [32, 10]
theorem spaced2_read (T : List TK) (hT : ∀ t ∈ T, Good t) : ∀ p, ∃ U, lexGo p 0 (spaced2 T ++ [32, 10]) = .ok U ∧ U.map (·.1) = T := by
  induction T with
  | nil =>
    intro p
    refine ⟨[], ?_, rfl⟩
    show lexGo p 0 (32 :: 10 :: []) = .ok []
    rw [lexGo_blank (by decide), lexGo_blank (by decide)]; rfl
  | cons t T ih =>
    intro p
    obtain ⟨h1, c, r, hc, hb⟩ := hT t (by simp)
    obtain ⟨U, hU, hm⟩ := ih (fun x hx => hT x (by simp [hx])) (p + (tokText t).length + 1 + 1)
    have h2 := oneV_more h1 (10 :: (spaced2 T ++ [32, 10]))
    have hs : spaced2 (t :: T) ++ [32, 10] = tokText t ++ 32 :: 10 :: (spaced2 T ++ [32, 10]) := by
      unfold spaced2
      rw [List.flatMap_cons]; simp
    refine ⟨[(t, p)] ++ U, ?_, by rw [List.map_append, hm]; rfl⟩
    rw [hs]
    rw [hc, List.cons_append] at h2 ⊢
    rw [lexGo_tok hb _ h2, ← List.cons_append, List.drop_left, lexGo_blank (by decide), lexGo_blank (by decide)]
    rw [hc] at hU
    rw [hU]; rfl
theorem spaced2_of {p q : Nat} {l : List UInt8} {T : List Tok} (h : lexGo p 0 l = .ok T) : ∃ U, lexGo q 0 (spaced2 (T.map (·.1)) ++ [32, 10]) = .ok U ∧ U.map (·.1) = T.map (·.1) :=
  spaced2_read _ (fun t ht => by
    obtain ⟨x, hx, rfl⟩ := List.mem_map.1 ht
    exact (lexGo_good p l T h x hx).1) q
theorem er_of_fst {X U : List Tok} (h : U.map (·.1) = X.map (·.1)) : U.map er = X.map er := by
  have h1 : ∀ T : List Tok, T.map er = (T.map (·.1)).map fun k => ((k, 0) : Tok) := fun T => by rw [List.map_map]; rfl
  rw [h1, h1, h]
/-- Texts with like tokens. -/
theorem parse_like {l m : List UInt8} {X U : List Tok} (hX : lexGo 0 0 l = .ok X) (hl : l.length ≤ 4096) (hU : lexGo 0 0 m = .ok U) (hm : m.length ≤ 4096) (h : U.map er = X.map er) : (ParseV l).Like (ParseV m) := by
  have h1 := lexV_ok hX hl
  have h2 := lexV_ok hU hm
  have hlen : U.length = X.length := by simpa using congrArg List.length h
  have hT : (X ++ [endT l.length]).map er = (U ++ [endT m.length]).map er := by rw [List.map_append, List.map_append, h]; rfl
  have h3 := run_like (f := 16 * (X ++ [endT l.length]).length + 16) (m := .text) rfl hT
  have h4 : (tokV (X ++ [endT l.length])).er = (tokV (U ++ [endT m.length])).er := by
    have e : 16 * (U ++ [endT m.length]).length + 16 = 16 * (X ++ [endT l.length]).length + 16 := by simp [hlen]
    unfold tokV
    rw [e]; exact h3
  have n1 := tokV_runs (row_of (toks_row hX) l.length)
  have n2 := tokV_runs (row_of (toks_row hU) m.length)
  unfold ParseV
  rw [h1, h2]
  show PV.Like (match tokV (X ++ [endT l.length]) with | .ok x _ => treeV x | .bad R => .bad 21 ((R.head?.map (·.2)).getD 0) | .out => .bad 0 0) (match tokV (U ++ [endT m.length]) with | .ok x _ => treeV x | .bad R => .bad 21 ((R.head?.map (·.2)).getD 0) | .out => .bad 0 0)
  cases hx : tokV (X ++ [endT l.length]) with
  | out => exact absurd hx n1
  | ok x R =>
    rw [hx] at h4
    cases hu : tokV (U ++ [endT m.length]) with
    | out => exact absurd hu n2
    | ok y S =>
      rw [hu] at h4
      exact treeV_like (PR.ok.inj h4).1
    | bad S => rw [hu] at h4; cases h4
  | bad R =>
    rw [hx] at h4
    cases hu : tokV (U ++ [endT m.length]) with
    | out => exact absurd hu n2
    | ok y S => rw [hu] at h4; cases h4
    | bad S => exact .bad _ _ _
/-- A text, and its tokens with blanks behind each. -/
theorem parse_blanks {l o : List UInt8} {X : List Tok} (hX : lexGo 0 0 l = .ok X) (hl : l.length ≤ 4096) (ho : o = spaced2 (X.map (·.1)) ++ [32, 10]) (hm : o.length ≤ 4096) : (ParseV l).Like (ParseV o) := by
  obtain ⟨U, hU, h⟩ := spaced2_of (q := 0) hX
  rw [← ho] at hU
  exact parse_like hX hl hU hm (er_of_fst h)
/-- What Parse gives, as values: a tree, an error, a place. -/
def z0 : Nd := .mk ⟨0, 0, [], 0, [], []⟩ [] []
def PV.tree : PV → Nd
  | .ok x => x
  | .bad _ _ => z0
def PV.err : PV → Int
  | .ok _ => 0
  | .bad e _ => e
def PV.at_ : PV → Nat
  | .ok _ => 0
  | .bad _ q => q
theorem PV.Like.tree {r s : PV} (h : r.Like s) : r.tree.er = s.tree.er := by
  cases h with
  | ok h => exact h
  | bad e p q => rfl
theorem PV.Like.err {r s : PV} (h : r.Like s) : r.err = s.err := by
  cases h with
  | ok h => rfl
  | bad e p q => rfl
theorem parseV_big {l : List UInt8} (h : 4096 < l.length) : ParseV l = .bad 4 0 := by
  unfold ParseV
  rw [lexV_big h]
theorem parseV_err0 {l : List UInt8} (h : (ParseV l).err = 0) : ∃ x, ParseV l = .ok x := by
  rcases parseV_form l with ⟨e, q, h1, h2⟩ | ⟨X, _, _, _, ⟨x, _, h2⟩ | ⟨A, t, B, _, _, h2⟩⟩
  · rw [h2] at h
    have h : e = 0 := h
    subst h
    rcases lexV_form l with ⟨Y, h3, _⟩ | ⟨h3, _⟩ | ⟨e, q', h3, _, _, h4, _⟩
    · rw [h1] at h3; cases h3
    · rw [h1] at h3; cases h3
    · rw [h1] at h3
      cases h3
      omega
  · rcases treeV_form x with h3 | h3 | ⟨q, h3⟩
    · exact ⟨x, by rw [h2, h3]⟩
    · rw [h2, h3] at h; cases h
    · rw [h2, h3] at h; cases h
  · rw [h2] at h; cases h
end
section
open Go.RowKit
def Hd.alike (p : Bool) (h g : Hd) : Bool := decide (h.kind = g.kind) && ((!p || decide (h.pos = g.pos)) && (decide (h.name = g.name) && (decide (h.n = g.n) && (decide (h.s = g.s) && decide (h.labels = g.labels)))))
mutual
def Nd.alike (p : Bool) : Nd → Nd → Bool
  | .mk h l a, .mk g m b => h.alike p g && (alikeN p l m && alikeA p a b)
def alikeN (p : Bool) : List Nd → List Nd → Bool
  | [], [] => true
  | x :: l, y :: m => x.alike p y && alikeN p l m
  | [], _ :: _ => false
  | _ :: _, [] => false
def alikeA (p : Bool) : List (Nd × Nd) → List (Nd × Nd) → Bool
  | [], [] => true
  | (x, x') :: l, (y, y') :: m => x.alike p y && (x'.alike p y' && alikeA p l m)
  | [], _ :: _ => false
  | _ :: _, [] => false
end
theorem hd_alike_er (h g : Hd) : h.alike false g = true ↔ h.er = g.er := by
  obtain ⟨a1, a2, a3, a4, a5, a6⟩ := h
  obtain ⟨b1, b2, b3, b4, b5, b6⟩ := g
  unfold Hd.alike Hd.er
  simp
theorem hd_alike_eq (h g : Hd) : h.alike true g = true ↔ h = g := by
  obtain ⟨a1, a2, a3, a4, a5, a6⟩ := h
  obtain ⟨b1, b2, b3, b4, b5, b6⟩ := g
  unfold Hd.alike
  simp
mutual
theorem alike_er : ∀ x y : Nd, x.alike false y = true ↔ x.er = y.er
  | .mk h l a, .mk g m b => by
    show (h.alike false g && (alikeN false l m && alikeA false a b)) = true ↔ Nd.mk h.er (ersN l) (ersA a) = Nd.mk g.er (ersN m) (ersA b)
    rw [Bool.and_eq_true, Bool.and_eq_true, hd_alike_er, alikeN_er l m, alikeA_er a b, Nd.mk.injEq]
theorem alikeN_er : ∀ l m : List Nd, alikeN false l m = true ↔ ersN l = ersN m
  | [], [] => ⟨fun _ => rfl, fun _ => rfl⟩
  | x :: l, y :: m => by
    show (x.alike false y && alikeN false l m) = true ↔ x.er :: ersN l = y.er :: ersN m
    rw [Bool.and_eq_true, alike_er x y, alikeN_er l m, List.cons.injEq]
  | [], _ :: _ => ⟨fun h => (by cases h), fun h => (by cases h)⟩
  | _ :: _, [] => ⟨fun h => (by cases h), fun h => (by cases h)⟩
theorem alikeA_er : ∀ l m : List (Nd × Nd), alikeA false l m = true ↔ ersA l = ersA m
  | [], [] => ⟨fun _ => rfl, fun _ => rfl⟩
  | (x, x') :: l, (y, y') :: m => by
    show (x.alike false y && (x'.alike false y' && alikeA false l m)) = true ↔ (x.er, x'.er) :: ersA l = (y.er, y'.er) :: ersA m
    rw [Bool.and_eq_true, Bool.and_eq_true, alike_er x y, alike_er x' y', alikeA_er l m, List.cons.injEq, Prod.mk.injEq, and_assoc]
  | [], _ :: _ => ⟨fun h => (by cases h), fun h => (by cases h)⟩
  | _ :: _, [] => ⟨fun h => (by cases h), fun h => (by cases h)⟩
end
mutual
theorem alike_eq : ∀ x y : Nd, x.alike true y = true ↔ x = y
  | .mk h l a, .mk g m b => by
    show (h.alike true g && (alikeN true l m && alikeA true a b)) = true ↔ Nd.mk h l a = Nd.mk g m b
    rw [Bool.and_eq_true, Bool.and_eq_true, hd_alike_eq, alikeN_eq l m, alikeA_eq a b, Nd.mk.injEq]
theorem alikeN_eq : ∀ l m : List Nd, alikeN true l m = true ↔ l = m
  | [], [] => ⟨fun _ => rfl, fun _ => rfl⟩
  | x :: l, y :: m => by
    show (x.alike true y && alikeN true l m) = true ↔ x :: l = y :: m
    rw [Bool.and_eq_true, alike_eq x y, alikeN_eq l m, List.cons.injEq]
  | [], _ :: _ => ⟨fun h => (by cases h), fun h => (by cases h)⟩
  | _ :: _, [] => ⟨fun h => (by cases h), fun h => (by cases h)⟩
theorem alikeA_eq : ∀ l m : List (Nd × Nd), alikeA true l m = true ↔ l = m
  | [], [] => ⟨fun _ => rfl, fun _ => rfl⟩
  | (x, x') :: l, (y, y') :: m => by
    show (x.alike true y && (x'.alike true y' && alikeA true l m)) = true ↔ (x, x') :: l = (y, y') :: m
    rw [Bool.and_eq_true, Bool.and_eq_true, alike_eq x y, alike_eq x' y', alikeA_eq l m, List.cons.injEq, Prod.mk.injEq, and_assoc]
  | [], _ :: _ => ⟨fun h => (by cases h), fun h => (by cases h)⟩
  | _ :: _, [] => ⟨fun h => (by cases h), fun h => (by cases h)⟩
end
/-- One by one. -/
theorem alikeN_all {p : Bool} : ∀ {l m : List Nd}, l.length = m.length → (∀ (i : Nat) (x y : Nd), l[i]? = some x → m[i]? = some y → x.alike p y = true) → alikeN p l m = true
  | [], [], _, _ => rfl
  | x :: l, y :: m, hl, h => by
    show (x.alike p y && alikeN p l m) = true
    rw [h 0 x y rfl rfl, alikeN_all (by simpa using hl) fun i u v hu hv => h (i + 1) u v (by simpa using hu) (by simpa using hv)]; rfl
  | [], _ :: _, hl, _ => by cases hl
  | _ :: _, [], hl, _ => by cases hl
theorem alikeN_not {p : Bool} : ∀ {l m : List Nd} {i : Nat} {x y : Nd}, l[i]? = some x → m[i]? = some y → x.alike p y = false → alikeN p l m = false
  | u :: l, v :: m, 0, x, y, hx, hy, h => by
    obtain rfl := Option.some.inj hx
    obtain rfl := Option.some.inj hy
    show (u.alike p v && alikeN p l m) = false
    rw [h]; rfl
  | u :: l, v :: m, i + 1, x, y, hx, hy, h => by
    show (u.alike p v && alikeN p l m) = false
    rw [alikeN_not (l := l) (m := m) (i := i) (by simpa using hx) (by simpa using hy) h, Bool.and_false]
  | [], _, _, _, _, hx, _, _ => by simp at hx
  | _ :: _, [], _, _, _, _, hy, _ => by simp at hy
theorem alikeN_len {p : Bool} : ∀ {l m : List Nd}, l.length ≠ m.length → alikeN p l m = false
  | [], [], h => absurd rfl h
  | x :: l, y :: m, h => by
    show (x.alike p y && alikeN p l m) = false
    rw [alikeN_len (fun e => h (by simp [e])), Bool.and_false]
  | [], _ :: _, _ => rfl
  | _ :: _, [], _ => rfl
theorem alikeA_all {p : Bool} : ∀ {l m : List (Nd × Nd)}, l.length = m.length → (∀ (i : Nat) (x y : Nd × Nd), l[i]? = some x → m[i]? = some y → x.1.alike p y.1 = true ∧ x.2.alike p y.2 = true) → alikeA p l m = true
  | [], [], _, _ => rfl
  | (x, x') :: l, (y, y') :: m, hl, h => by
    show (x.alike p y && (x'.alike p y' && alikeA p l m)) = true
    obtain ⟨h1, h2⟩ := h 0 (x, x') (y, y') rfl rfl
    simp only at h1 h2
    rw [h1, h2, alikeA_all (by simpa using hl) fun i u v hu hv => h (i + 1) u v (by simpa using hu) (by simpa using hv)]; rfl
  | [], _ :: _, hl, _ => by cases hl
  | _ :: _, [], hl, _ => by cases hl
theorem alikeA_not {p : Bool} : ∀ {l m : List (Nd × Nd)} {i : Nat} {x y : Nd × Nd}, l[i]? = some x → m[i]? = some y → (x.1.alike p y.1 = false ∨ x.2.alike p y.2 = false) → alikeA p l m = false
  | (u, u') :: l, (v, v') :: m, 0, x, y, hx, hy, h => by
    obtain rfl := Option.some.inj hx
    obtain rfl := Option.some.inj hy
    show (u.alike p v && (u'.alike p v' && alikeA p l m)) = false
    rcases h with h | h
    · simp only at h; rw [h]; rfl
    · simp only at h; rw [h, Bool.false_and, Bool.and_false]
  | (u, u') :: l, (v, v') :: m, i + 1, x, y, hx, hy, h => by
    show (u.alike p v && (u'.alike p v' && alikeA p l m)) = false
    rw [alikeA_not (l := l) (m := m) (i := i) (by simpa using hx) (by simpa using hy) h, Bool.and_false, Bool.and_false]
  | [], _, _, _, _, hx, _, _ => by simp at hx
  | _ :: _, [], _, _, _, _, hy, _ => by simp at hy
theorem alikeA_len {p : Bool} : ∀ {l m : List (Nd × Nd)}, l.length ≠ m.length → alikeA p l m = false
  | [], [], h => absurd rfl h
  | (x, x') :: l, (y, y') :: m, h => by
    show (x.alike p y && (x'.alike p y' && alikeA p l m)) = false
    rw [alikeA_len (fun e => h (by simp [e])), Bool.and_false, Bool.and_false]
  | [], _ :: _, _ => rfl
  | _ :: _, [], _ => rfl
theorem alike_mk (p : Bool) (x y : Nd) : x.alike p y = (x.hd.alike p y.hd && (alikeN p x.args y.args && alikeA p x.arms y.arms)) := by
  cases x; cases y; rfl
theorem sizeN_mem : ∀ {l : List Nd} {x : Nd}, x ∈ l → x.size ≤ sizeN l
  | y :: l, x, h => by
    show x.size ≤ y.size + sizeN l
    rcases List.mem_cons.1 h with rfl | h
    · omega
    · have := sizeN_mem h; omega
theorem sizeA_mem : ∀ {l : List (Nd × Nd)} {x : Nd × Nd}, x ∈ l → x.1.size + x.2.size ≤ sizeA l
  | (p, b) :: l, x, h => by
    show x.1.size + x.2.size ≤ p.size + b.size + sizeA l
    rcases List.mem_cons.1 h with rfl | h
    · simp only; omega
    · have := sizeA_mem h; omega
theorem size_arg {x c : Nd} (h : c ∈ x.args) : c.size < x.size := by
  cases x with
  | mk hd l a =>
    have := sizeN_mem h
    show c.size < 1 + sizeN l + sizeA a
    have : c.size ≤ sizeN l := this
    omega
theorem size_arm {x : Nd} {c : Nd × Nd} (h : c ∈ x.arms) : c.1.size < x.size ∧ c.2.size < x.size := by
  cases x with
  | mk hd l a =>
    have h1 := sizeA_mem h
    have h1 : c.1.size + c.2.size ≤ sizeA a := h1
    constructor
    · show c.1.size < 1 + sizeN l + sizeA a; omega
    · show c.2.size < 1 + sizeN l + sizeA a; omega
end
end Go.Proofs.YtecpldnjpapalaaDoor
