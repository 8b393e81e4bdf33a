/-
  Plain facts: what binds more is read first; sums and products from the left, the others from the right.
  Plain facts: three texts in brackets with two signs between them, and with two of them in brackets of their own.
-/
import Derived.Test.YtecpldnjpapalaaDoorGPure
namespace Go.Proofs.YtecpldnjpapalaaDoor
section
set_option linter.unusedSimpArgs false
set_option linter.unusedVariables false
open Go.RowKit
/-- The levels, the loosest first; the signs of each; what they make. -/
def LM : Nat → Md
  | 0 => .seq
  | 1 => .asg
  | n + 2 => .level n
def sg : Nat → List (List UInt8)
  | 0 => [sSemi]
  | 1 => [sAssign]
  | n + 2 => signsOf n
def nk (n : Nat) : Int := if n = 0 then 20 else if n = 2 then 22 else if n = 3 then 21 else 19
def nd (n : Nat) (t : Tok) (x y : Nd) : Nd := node (nk n) t [x, y]
/-- It is read so. -/
def Rd (m : Md) (T : List Tok) (x : Nd) (R : List Tok) : Prop := ∃ f, run f m T = .ok x R
theorem Rd.up {m : Md} {T R : List Tok} {x : Nd} (h : Rd m T x R) : ∃ f, ∀ g, f ≤ g → run g m T = .ok x R := by
  obtain ⟨f, h⟩ := h
  exact ⟨f, fun g hg => by rw [run_more hg m T (by rw [h]; exact fun e => by cases e), h]⟩
/-- What begins no item of its own. -/
def St (T : List Tok) : Prop := ∃ t T', T = t :: T' ∧ isOne [sFun] t = false ∧ isOne [sLet, sMatch, sTry, sIf, sRaise] t = false
theorem rd_item {T R : List Tok} {x : Nd} (hs : St T) (h : Rd .asg T x R) : Rd .item T x R := by
  obtain ⟨t, T', rfl, h1, h2⟩ := hs
  obtain ⟨f, hf⟩ := h
  exact ⟨f + 1, by rw [run_succ]; simp only [step, exec, h1, h2, Bool.false_eq_true, if_false, hf]⟩
theorem rd_level {n : Nat} (hn : n < 5) {T U R : List Tok} {x y : Nd} (h : Rd (.level (n + 1)) T x U) (h' : Rd (.lvl n x) U y R) : Rd (.level n) T y R := by
  obtain ⟨f, hf⟩ := h.up
  obtain ⟨g, hg⟩ := h'.up
  exact ⟨max f g + 1, by rw [run_succ]; simp only [step, if_neg (show ¬ 5 ≤ n by omega), exec, hf _ (Nat.le_max_left _ _), hg _ (Nat.le_max_right _ _)]⟩
theorem rd_stop {n : Nat} {u : Tok} {Z : List Tok} {x : Nd} (hu : isOne (signsOf n) u = false) : Rd (.lvl n x) (u :: Z) x (u :: Z) :=
  ⟨1, by rw [run_succ]; simp only [step, exec, hu, Bool.false_eq_true, if_false]⟩
theorem rd_left {n : Nat} (hn : 3 ≤ n) {t : Tok} {Z U R : List Tok} {x y z : Nd} (ht : isOne (signsOf n) t = true) (h : Rd (.level (n + 1)) Z y U) (h' : Rd (.lvl n (node 19 t [x, y])) U z R) : Rd (.lvl n x) (t :: Z) z R := by
  obtain ⟨f, hf⟩ := h.up
  obtain ⟨g, hg⟩ := h'.up
  exact ⟨max f g + 1, by rw [run_succ]; simp only [step, exec, ht, if_true, if_neg (show ¬ n = 2 by omega), if_neg (show ¬ n < 2 by omega), hf _ (Nat.le_max_left _ _), hg _ (Nat.le_max_right _ _)]⟩
theorem rd_skip {n : Nat} (hn : n ≤ 6) {T Z : List Tok} {u : Tok} {x : Nd} (hs : St T) (h : Rd (LM (n + 1)) T x (u :: Z)) (hu : isOne (sg n) u = false) : Rd (LM n) T x (u :: Z) := by
  match n, hn, h, hu with
  | 0, _, h, hu =>
    obtain ⟨f, hf⟩ := rd_item hs h
    exact ⟨f + 1, by show run (f + 1) .seq T = _; rw [run_succ]; simp only [step, exec, hf, show isOne [sSemi] u = false from hu, Bool.false_eq_true, if_false]⟩
  | 1, _, h, hu =>
    obtain ⟨f, hf⟩ := h
    have hf : run f (.level 0) T = .ok x (u :: Z) := hf
    exact ⟨f + 1, by show run (f + 1) .asg T = _; rw [run_succ]; simp only [step, exec, hf, show isOne [sAssign] u = false from hu, Bool.false_eq_true, if_false]⟩
  | n + 2, hn, h, hu => exact rd_level (by omega) h (rd_stop hu)
theorem rd_climb {T Z : List Tok} {u : Tok} {x : Nd} (hs : St T) {n : Nat} : ∀ (k : Nat), n + k ≤ 7 → Rd (LM (n + k)) T x (u :: Z) → (∀ j, n ≤ j → j < n + k → isOne (sg j) u = false) → Rd (LM n) T x (u :: Z)
  | 0, _, h, _ => h
  | k + 1, hk, h, hu => rd_climb hs k (by omega) (rd_skip (n := n + k) (by omega) hs h (hu _ (by omega) (by omega))) (fun j h1 h2 => hu j h1 (by omega))
theorem rd_to {T Z : List Tok} {u : Tok} {x : Nd} (hs : St T) {n m : Nat} (hnm : n ≤ m) (hm : m ≤ 7) (h : Rd (LM m) T x (u :: Z)) (hu : ∀ j, n ≤ j → j < m → isOne (sg j) u = false) : Rd (LM n) T x (u :: Z) := by
  obtain ⟨k, rfl⟩ := Nat.le.dest hnm
  exact rd_climb hs k hm h hu
/-- Read from the right. -/
theorem rd_right {n : Nat} (hn : n ≤ 3) {T Z R : List Tok} {t : Tok} {x y : Nd} (hs : St T) (hz : St Z) (h : Rd (LM (n + 1)) T x (t :: Z)) (ht : isOne (sg n) t = true) (h' : Rd (LM n) Z y R) : Rd (LM n) T (nd n t x y) R := by
  match n, hn, h, ht, h' with
  | 0, _, h, ht, h' =>
    obtain ⟨f, hf⟩ := (rd_item hs h).up
    obtain ⟨g, hg⟩ := h'.up
    have hg : ∀ k, g ≤ k → run k .seq Z = .ok y R := hg
    exact ⟨max f g + 1, by show run (max f g + 1) .seq T = _; rw [run_succ]; simp only [step, exec, hf _ (Nat.le_max_left _ _), show isOne [sSemi] t = true from ht, if_true, hg _ (Nat.le_max_right _ _)]; rfl⟩
  | 1, _, h, ht, h' =>
    obtain ⟨f, hf⟩ := h.up
    have hf : ∀ k, f ≤ k → run k (.level 0) T = .ok x (t :: Z) := hf
    obtain ⟨g, hg⟩ := (rd_item hz h').up
    exact ⟨max f g + 1, by show run (max f g + 1) .asg T = _; rw [run_succ]; simp only [step, exec, hf _ (Nat.le_max_left _ _), show isOne [sAssign] t = true from ht, if_true, hg _ (Nat.le_max_right _ _)]; rfl⟩
  | 2, _, h, ht, h' =>
    obtain ⟨g, hg⟩ := h'
    have hg : run g (.level 0) Z = .ok y R := hg
    exact rd_level (n := 0) (by omega) h ⟨g + 1, by rw [run_succ]; simp only [step, exec, show isOne (signsOf 0) t = true from ht, if_true, if_neg (show ¬ (0 : Nat) = 2 by omega), if_pos (show (0 : Nat) < 2 by omega), hg]; rfl⟩
  | 3, _, h, ht, h' =>
    obtain ⟨g, hg⟩ := h'
    have hg : run g (.level 1) Z = .ok y R := hg
    exact rd_level (n := 1) (by omega) h ⟨g + 1, by rw [run_succ]; simp only [step, exec, show isOne (signsOf 1) t = true from ht, if_true, if_neg (show ¬ (1 : Nat) = 2 by omega), if_pos (show (1 : Nat) < 2 by omega), hg]; rfl⟩
/-- A comparison. -/
theorem rd_cmp {T Z R : List Tok} {t : Tok} {x y : Nd} (h : Rd (LM 5) T x (t :: Z)) (ht : isOne (sg 4) t = true) (h' : Rd (LM 5) Z y R) : Rd (LM 4) T (nd 4 t x y) R := by
  obtain ⟨g, hg⟩ := h'
  have hg : run g (.level 3) Z = .ok y R := hg
  exact rd_level (n := 2) (by omega) h ⟨g + 1, by rw [run_succ]; simp only [step, exec, show isOne (signsOf 2) t = true from ht, if_true, hg]; rfl⟩
/-- Two operands of one level. -/
theorem rd_bin {n : Nat} (hn : n ≤ 6) {T Z R : List Tok} {t u : Tok} {x y : Nd} (hs : St T) (hz : St Z) (h : Rd (LM (n + 1)) T x (t :: Z)) (ht : isOne (sg n) t = true) (h' : Rd (LM (n + 1)) Z y (u :: R)) (hu : isOne (sg n) u = false) : Rd (LM n) T (nd n t x y) (u :: R) := by
  by_cases h3 : n ≤ 3
  · exact rd_right h3 hs hz h ht (rd_skip hn hz h' hu)
  by_cases h4 : n = 4
  · subst h4
    exact rd_cmp h ht h'
  · obtain ⟨m, rfl⟩ : ∃ m, n = m + 2 := ⟨n - 2, by omega⟩
    have e : nd (m + 2) t x y = node 19 t [x, y] := by
      unfold nd nk
      rw [if_neg (by omega), if_neg (by omega), if_neg (by omega)]
    rw [e]
    exact rd_level (by omega) h (rd_left (by omega) ht h' (rd_stop hu))
/-- Three operands of one level that is read from the left. -/
theorem rd_three {n : Nat} (h5 : 4 < n) (hn : n ≤ 6) {T Z V R : List Tok} {s t u : Tok} {x y z : Nd} (h : Rd (LM (n + 1)) T x (s :: Z)) (hs : isOne (sg n) s = true) (h' : Rd (LM (n + 1)) Z y (t :: V)) (ht : isOne (sg n) t = true) (h'' : Rd (LM (n + 1)) V z (u :: R)) (hu : isOne (sg n) u = false) : Rd (LM n) T (nd n t (nd n s x y) z) (u :: R) := by
  obtain ⟨m, rfl⟩ : ∃ m, n = m + 2 := ⟨n - 2, by omega⟩
  have e : ∀ (t : Tok) (x y : Nd), nd (m + 2) t x y = node 19 t [x, y] := fun t x y => by
    unfold nd nk
    rw [if_neg (by omega), if_neg (by omega), if_neg (by omega)]
  rw [e, e]
  exact rd_level (by omega) h (rd_left (by omega) hs h' (rd_left (by omega) ht h'' (rd_stop hu)))
/-- A sign of a level, and of no other. -/
structure SgAt (i : Nat) (t : Tok) : Prop where
  le : i ≤ 6
  one : isOne (sg i) t = true
  other : ∀ j, j ≤ 6 → j ≠ i → isOne (sg j) t = false
  stops : Stops t
def NoSg (u : Tok) : Prop := ∀ j, j ≤ 6 → isOne (sg j) u = false
/-- An operand, whatever stops it behind. -/
structure Opd (W : List Tok) (x : Nd) : Prop where
  st : ∀ Z, St (W ++ Z)
  reads : ∀ u Z, Stops u → Rd .unary (W ++ u :: Z) x (u :: Z)
theorem Opd.top {W Z : List Tok} {x : Nd} {u : Tok} (h : Opd W x) (hu : Stops u) : Rd (LM 7) (W ++ u :: Z) x (u :: Z) := by
  obtain ⟨f, hf⟩ := h.reads u Z hu
  exact ⟨f + 1, by show run (f + 1) (.level 5) _ = _; rw [run_succ]; simp only [step, if_pos (Nat.le_refl 5), exec, hf]⟩
theorem Opd.at_ {W Z : List Tok} {x : Nd} {u : Tok} (h : Opd W x) (hu : Stops u) {n : Nat} (hn : n ≤ 7) (hs : ∀ j, n ≤ j → j < 7 → isOne (sg j) u = false) : Rd (LM n) (W ++ u :: Z) x (u :: Z) := rd_to (h.st _) hn (Nat.le_refl _) (h.top hu) hs
theorem st_open (p : Nat) (Z : List Tok) : St (openT p :: Z) := ⟨_, _, rfl, rfl, rfl⟩
/-- What stands in brackets is an operand. -/
theorem opd_brackets {X : List Tok} {x : Nd} (h : ∀ Z, Rd .seq (X ++ shutT 0 :: Z) x (shutT 0 :: Z)) : Opd (openT 0 :: (X ++ [shutT 0])) x := by
  refine ⟨fun Z => ⟨_, _, rfl, rfl, rfl⟩, fun u Z hu => ?_⟩
  obtain ⟨f, hf⟩ := h (u :: Z)
  have h1 := run_post (run_atom 0 0 hf) hu
  refine ⟨f + 4, ?_⟩
  rw [List.cons_append, List.append_assoc]
  exact h1
theorem opd_parsed {l : List UInt8} {x : Nd} (h : ParseV l = .ok x) : ∃ X, lexGo 0 0 l = .ok X ∧ Opd (openT 0 :: (X.map er ++ [shutT 0])) x.er := by
  rcases parseV_form l with ⟨e, q', h1, h2⟩ | ⟨X, hX, hl, hV, ⟨z, hz, h2⟩ | ⟨A, t, B, hT, hv, h2⟩⟩
  · rw [h2] at h; cases h
  · rw [h2] at h
    have hzx : z = x := by
      rcases treeV_form z with h3 | h3 | ⟨_, h3⟩ <;> rw [h3] at h <;> cases h
      rfl
    subst hzx
    have h5 := text_seq hz
    have h6 := run_alike (16 * (X ++ [endT l.length]).length + 15) .seq (X ++ [endT l.length])
    rw [h5] at h6
    have h6 : run (16 * (X ++ [endT l.length]).length + 15) .seq (X.map er ++ [endT 0]) = .ok z.er [endT 0] := by
      rw [List.map_append] at h6; exact h6
    exact ⟨X, hX, opd_brackets fun Z => ⟨_, run_shuts (e := endT 0) (c := shutT 0) Z rfl (shutT_is 0) _ .seq (X.map er) (fun h => by cases h) z.er [] h6⟩⟩
  · rw [h2] at h; cases h
section
variable {A B C R : List Tok} {a b c : Nd} {i k : Nat} {s t u : Tok}
theorem two_at (hA : Opd A a) (hB : Opd B b) (hs : SgAt i s) (hu : Stops u) (hn : ∀ j, i ≤ j → j ≤ 6 → isOne (sg j) u = false) : Rd (LM i) (A ++ s :: (B ++ u :: R)) (nd i s a b) (u :: R) :=
  rd_bin hs.le (hA.st _) (hB.st _) (hA.at_ hs.stops (by have := hs.le; omega) fun j h1 h2 => hs.other j (by omega) (by omega)) hs.one (hB.at_ hu (by have := hs.le; omega) fun j h1 h2 => hn j (by omega) (by omega)) (hn i (Nat.le_refl _) hs.le)
theorem two_from (hA : Opd A a) (hB : Opd B b) (hs : SgAt i s) (hu : Stops u) {n : Nat} (hni : n ≤ i) (hn : ∀ j, n ≤ j → j ≤ 6 → isOne (sg j) u = false) : Rd (LM n) (A ++ s :: (B ++ u :: R)) (nd i s a b) (u :: R) :=
  rd_to (hA.st _) hni (by have := hs.le; omega) (two_at hA hB hs hu fun j h1 h2 => hn j (by omega) h2) fun j h1 h2 => hn j h1 (by have := hs.le; omega)
/-- Two operands in brackets are one. -/
theorem two_opd (hA : Opd A a) (hB : Opd B b) (hs : SgAt i s) : Opd (openT 0 :: ((A ++ s :: B) ++ [shutT 0])) (nd i s a b) :=
  opd_brackets fun Z => by
    have h := two_from (R := Z) hA hB hs (u := shutT 0) ⟨rfl, rfl⟩ (Nat.zero_le _) (fun j _ h => by
      match j, h with
      | 0, _ => rfl
      | 1, _ => rfl
      | j + 2, _ => exact shut_one (signs_shut j) _ (shutT_is 0))
    rw [List.append_assoc]
    exact h
theorem plain_left (hA : Opd A a) (hB : Opd B b) (hC : Opd C c) (hs : SgAt i s) (ht : SgAt k t) (hu : Stops u) (hn : NoSg u) (h : k < i ∨ i = k ∧ 4 < i) : Rd .seq (A ++ s :: (B ++ t :: (C ++ u :: R))) (nd k t (nd i s a b) c) (u :: R) := by
  have hk := ht.le
  rcases h with h | ⟨rfl, h⟩
  · exact rd_to (n := 0) (hA.st _) (Nat.zero_le _) (by omega) (rd_bin hk (hA.st _) (hC.st _) (two_from hA hB hs ht.stops (by omega) fun j h1 h2 => ht.other j h2 (by omega)) ht.one (hC.at_ hu (by omega) fun j h1 h2 => hn j (by omega)) (hn k hk)) fun j _ h2 => hn j (by omega)
  · exact rd_to (n := 0) (hA.st _) (Nat.zero_le _) (by omega) (rd_three h hk (hA.at_ hs.stops (by omega) fun j h1 h2 => hs.other j (by omega) (by omega)) hs.one (hB.at_ ht.stops (by omega) fun j h1 h2 => ht.other j (by omega) (by omega)) ht.one (hC.at_ hu (by omega) fun j h1 h2 => hn j (by omega)) (hn i hk)) fun j _ h2 => hn j (by omega)
theorem plain_right (hA : Opd A a) (hB : Opd B b) (hC : Opd C c) (hs : SgAt i s) (ht : SgAt k t) (hu : Stops u) (hn : NoSg u) (h : i < k ∨ i = k ∧ i < 4) : Rd .seq (A ++ s :: (B ++ t :: (C ++ u :: R))) (nd i s a (nd k t b c)) (u :: R) := by
  have hi := hs.le
  rcases h with h | ⟨rfl, h⟩
  · exact rd_to (n := 0) (hA.st _) (Nat.zero_le _) (by omega) (rd_bin hi (hA.st _) (hB.st _) (hA.at_ hs.stops (by omega) fun j h1 h2 => hs.other j (by omega) (by omega)) hs.one (two_from hB hC ht hu (by omega) fun j h1 h2 => hn j h2) (hn i hi)) fun j _ h2 => hn j (by omega)
  · exact rd_to (n := 0) (hA.st _) (Nat.zero_le _) (by omega) (rd_right (by omega) (hA.st _) (hB.st _) (hA.at_ hs.stops (by omega) fun j h1 h2 => hs.other j (by omega) (by omega)) hs.one (two_from hB hC ht hu (Nat.le_refl _) fun j h1 h2 => hn j h2)) fun j _ h2 => hn j (by omega)
theorem brackets_left (hA : Opd A a) (hB : Opd B b) (hC : Opd C c) (hs : SgAt i s) (ht : SgAt k t) (hu : Stops u) (hn : NoSg u) : Rd .seq ((openT 0 :: ((A ++ s :: B) ++ [shutT 0])) ++ t :: (C ++ u :: R)) (nd k t (nd i s a b) c) (u :: R) :=
  two_from (two_opd hA hB hs) hC ht hu (Nat.zero_le _) fun j _ h => hn j h
theorem brackets_right (hA : Opd A a) (hB : Opd B b) (hC : Opd C c) (hs : SgAt i s) (ht : SgAt k t) (hu : Stops u) (hn : NoSg u) : Rd .seq (A ++ s :: ((openT 0 :: ((B ++ t :: C) ++ [shutT 0])) ++ u :: R)) (nd i s a (nd k t b c)) (u :: R) :=
  two_from hA (two_opd hB hC ht) hs hu (Nat.zero_le _) fun j _ h => hn j h
/-- Two comparisons. -/
theorem plain_bad (hA : Opd A a) (hB : Opd B b) (hs : SgAt 4 s) (ht : SgAt 4 t) : Rd .seq (A ++ s :: (B ++ t :: R)) (nd 4 s a b) (t :: R) :=
  rd_to (n := 0) (m := 4) (hA.st _) (Nat.zero_le _) (by omega) (rd_cmp (hA.at_ hs.stops (by omega) fun j h1 h2 => hs.other j (by omega) (by omega)) hs.one (hB.at_ ht.stops (by omega) fun j h1 h2 => ht.other j (by omega) (by omega))) fun j _ h2 => ht.other j (by omega) (by omega)
end
end
section
set_option linter.unusedSimpArgs false
set_option linter.unusedVariables false
open Go.RowKit
/-- A text's tokens, places aside. -/
def LexE (l : List UInt8) (E : List Tok) : Prop := ∀ p, ∃ U, lexGo p 0 l = .ok U ∧ U.map er = E
theorem lexE_of {l : List UInt8} {X : List Tok} (h : lexGo 0 0 l = .ok X) : LexE l (X.map er) := fun p => by
  have h1 := lexGo_shift p 0 l
  rw [h, Nat.zero_add] at h1
  exact ⟨_, h1, shut_er_map p X⟩
theorem lexE_nil : LexE [] [] := fun p => ⟨[], lexGo_nil _ _, rfl⟩
theorem lexE_wrap {l m : List UInt8} {X E : List Tok} (h : LexE l X) (hm : LexE m E) : LexE (40 :: (l ++ 41 :: m)) (openT 0 :: (X ++ shutT 0 :: E)) := fun p => by
  obtain ⟨U0, h0, e0⟩ := h 0
  obtain ⟨U, hU, e⟩ := hm (p + l.length + 2)
  refine ⟨_, by rw [lexGo_wrap p l m h0, hU]; rfl, ?_⟩
  rw [List.map_append, e, List.map_cons, List.map_append, shut_er_map, e0, List.cons_append, List.append_assoc]
  rfl
/-- The signs between two, and their levels. -/
def bsigns : List (List UInt8) := [sSemi, sAssign, sOr, sAnd, sEq, sLess, sPlus, sMinus, sTimes, sOver, sRem]
def blevs : List Nat := [0, 1, 2, 3, 4, 4, 5, 5, 6, 6, 6]
def bsign (i : Nat) : List UInt8 := bsigns[i]?.getD []
def blev (i : Nat) : Nat := blevs[i]?.getD 0
abbrev bT (i : Nat) : Tok := (⟨7, bsign i, 0⟩, 0)
theorem bsign_one {i : Nat} (h : i < 11) : oneV (bsign i) = .tok ⟨7, bsign i, 0⟩ (bsign i).length ∧ ∃ c r, bsign i = c :: r ∧ isBlank c = false := by
  have : i = 0 ∨ i = 1 ∨ i = 2 ∨ i = 3 ∨ i = 4 ∨ i = 5 ∨ i = 6 ∨ i = 7 ∨ i = 8 ∨ i = 9 ∨ i = 10 := by omega
  rcases this with rfl | rfl | rfl | rfl | rfl | rfl | rfl | rfl | rfl | rfl | rfl
  all_goals exact ⟨by kernel_rfl, _, _, rfl, by decide⟩
theorem sgAt {i : Nat} (h : i < 11) : SgAt (blev i) (bT i) := by
  have : i = 0 ∨ i = 1 ∨ i = 2 ∨ i = 3 ∨ i = 4 ∨ i = 5 ∨ i = 6 ∨ i = 7 ∨ i = 8 ∨ i = 9 ∨ i = 10 := by omega
  rcases this with rfl | rfl | rfl | rfl | rfl | rfl | rfl | rfl | rfl | rfl | rfl
  all_goals
    refine ⟨by decide, by decide, fun j hj hn => ?_, ⟨by decide, by decide⟩⟩
    have : j = 0 ∨ j = 1 ∨ j = 2 ∨ j = 3 ∨ j = 4 ∨ j = 5 ∨ j = 6 := by omega
    rcases this with rfl | rfl | rfl | rfl | rfl | rfl | rfl
    all_goals first | decide | exact absurd rfl hn
theorem lexE_sign {i : Nat} (hi : i < 11) {m : List UInt8} {E : List Tok} (hm : LexE m E) : LexE (32 :: (bsign i ++ 32 :: m)) (bT i :: E) := fun p => by
  obtain ⟨h1, c, r, hc, hb⟩ := bsign_one hi
  obtain ⟨U, hU, e⟩ := hm (p + 1 + (bsign i).length + 1)
  have h2 := oneV_more h1 m
  refine ⟨[(⟨7, bsign i, 0⟩, p + 1)] ++ U, ?_, by rw [List.map_append, e]; rfl⟩
  rw [lexGo_blank (by decide)]
  generalize (⟨7, bsign i, 0⟩ : TK) = tk at *
  rw [hc, List.cons_append] at h2 ⊢
  rw [lexGo_tok hb _ h2, ← List.cons_append, List.drop_left, lexGo_blank (by decide)]
  rw [hc] at hU
  rw [hU]; rfl
theorem end_nosg : NoSg (endT 0) := fun j _ => end_one_not rfl _
/-- What is read of a text's tokens, places aside. -/
theorem parse_rd {l : List UInt8} {E : List Tok} {y : Nd} (hE : LexE l E) (hl : l.length ≤ 4096) (h : Rd .seq (E ++ [endT 0]) y [endT 0]) : ∃ x, x.er = y ∧ ParseV l = treeV x := by
  obtain ⟨X, hX, e⟩ := hE 0
  obtain ⟨f, hf⟩ := h
  have h1 : run (f + 1) .text (E ++ [endT 0]) = .ok y [endT 0] := by
    rw [run_succ]
    simp only [step, exec, hf, show isKind 0 (endT 0) = true from rfl, if_true]
  have h2 := run_alike (f + 1) .text (X ++ [endT l.length])
  have hm : (X ++ [endT l.length]).map er = E ++ [endT 0] := by rw [List.map_append, e]; rfl
  rw [hm] at h2
  have h2 : run (f + 1) .text (E ++ [endT 0]) = (run (f + 1) .text (X ++ [endT l.length])).er := h2
  rw [h1] at h2
  cases hx : run (f + 1) .text (X ++ [endT l.length]) with
  | ok x R =>
    rw [hx] at h2
    have h3 := (PR.ok.inj h2).1
    have h4 := tokV_of (row_of (toks_row hX) l.length) hx (fun h => by cases h)
    refine ⟨x, h3.symm, ?_⟩
    unfold ParseV
    rw [lexV_ok hX hl]
    show (match tokV (X ++ [endT l.length]) with | .ok x _ => treeV x | .bad R => PV.bad 21 ((R.head?.map (·.2)).getD 0) | .out => .bad 0 0) = treeV x
    rw [h4]
  | bad R => rw [hx] at h2; cases h2
  | out => rw [hx] at h2; cases h2
theorem parse_rd_bad {l : List UInt8} {E : List Tok} {y : Nd} {t : Tok} {R : List Tok} (hE : LexE l E) (hl : l.length ≤ 4096) (h : Rd .seq (E ++ [endT 0]) y (t :: R)) (ht : isKind 0 t = false) : ∃ q, ParseV l = .bad 21 q := by
  obtain ⟨X, hX, e⟩ := hE 0
  obtain ⟨f, hf⟩ := h
  have h1 : run (f + 1) .text (E ++ [endT 0]) = .bad (t :: R) := by
    rw [run_succ]
    simp only [step, exec, hf, ht, Bool.false_eq_true, if_false]
  have h2 := run_alike (f + 1) .text (X ++ [endT l.length])
  have hm : (X ++ [endT l.length]).map er = E ++ [endT 0] := by rw [List.map_append, e]; rfl
  rw [hm] at h2
  have h2 : run (f + 1) .text (E ++ [endT 0]) = (run (f + 1) .text (X ++ [endT l.length])).er := h2
  rw [h1] at h2
  cases hx : run (f + 1) .text (X ++ [endT l.length]) with
  | ok x S => rw [hx] at h2; cases h2
  | bad S =>
    have h4 := tokV_of (row_of (toks_row hX) l.length) hx (fun h => by cases h)
    refine ⟨(S.head?.map (fun t : Tok => t.2)).getD 0, ?_⟩
    unfold ParseV
    rw [lexV_ok hX hl]
    show (match tokV (X ++ [endT l.length]) with | .ok x _ => treeV x | .bad R => PV.bad 21 ((R.head?.map (fun t : Tok => t.2)).getD 0) | .out => .bad 0 0) = _
    rw [h4]
  | out => rw [hx] at h2; cases h2
def PV.mild (r : PV) : Prop := r.err = 0 ∨ r.err = 3 ∨ r.err = 22
theorem treeV_mild (x : Nd) : (treeV x).mild := by
  rcases treeV_form x with h | h | ⟨q, h⟩ <;> rw [h]
  · exact .inl rfl
  · exact .inr (.inl rfl)
  · exact .inr (.inr rfl)
def inB (l : List UInt8) : List UInt8 := 40 :: (l ++ [41])
def plainB (a s b t c : List UInt8) : List UInt8 := 40 :: (a ++ 41 :: (32 :: (s ++ 32 :: (40 :: (b ++ 41 :: (32 :: (t ++ 32 :: (40 :: (c ++ 41 :: [])))))))))
def leftB (a s b t c : List UInt8) : List UInt8 := 40 :: ((40 :: (a ++ 41 :: (32 :: (s ++ 32 :: (40 :: (b ++ 41 :: [])))))) ++ 41 :: (32 :: (t ++ 32 :: (40 :: (c ++ 41 :: [])))))
def rightB (a s b t c : List UInt8) : List UInt8 := 40 :: (a ++ 41 :: (32 :: (s ++ 32 :: (40 :: ((40 :: (b ++ 41 :: (32 :: (t ++ 32 :: (40 :: (c ++ 41 :: [])))))) ++ 41 :: [])))))
section
variable {a b c : List UInt8} {x y z : Nd} {i k : Nat} (ha : ParseV a = .ok x) (hb : ParseV b = .ok y) (hc : ParseV c = .ok z) (hi : i < 11) (hk : k < 11)
include ha hb hc hi hk
theorem binds_lexed : ∃ A B C : List Tok, Opd A x.er ∧ Opd B y.er ∧ Opd C z.er ∧ LexE (plainB a (bsign i) b (bsign k) c) (A ++ bT i :: (B ++ bT k :: C)) ∧ LexE (leftB a (bsign i) b (bsign k) c) ((openT 0 :: ((A ++ bT i :: B) ++ [shutT 0])) ++ bT k :: C) ∧ LexE (rightB a (bsign i) b (bsign k) c) (A ++ bT i :: (openT 0 :: ((B ++ bT k :: C) ++ [shutT 0]))) := by
  obtain ⟨X, hX, oA⟩ := opd_parsed ha
  obtain ⟨Y, hY, oB⟩ := opd_parsed hb
  obtain ⟨Z, hZ, oC⟩ := opd_parsed hc
  have eX := lexE_of hX
  have eY := lexE_of hY
  have eZ := lexE_of hZ
  refine ⟨_, _, _, oA, oB, oC, ?_, ?_, ?_⟩
  · have := lexE_wrap eX (lexE_sign hi (lexE_wrap eY (lexE_sign hk (lexE_wrap eZ lexE_nil))))
    simpa [plainB] using this
  · have := lexE_wrap (lexE_wrap eX (lexE_sign hi (lexE_wrap eY lexE_nil))) (lexE_sign hk (lexE_wrap eZ lexE_nil))
    simpa [leftB] using this
  · have := lexE_wrap eX (lexE_sign hi (lexE_wrap (lexE_wrap eY (lexE_sign hk (lexE_wrap eZ lexE_nil))) lexE_nil))
    simpa [rightB] using this
theorem binds_four (h1 : blev i = 4) (h2 : blev k = 4) (hl : (plainB a (bsign i) b (bsign k) c).length ≤ 4096) : ∃ q, ParseV (plainB a (bsign i) b (bsign k) c) = .bad 21 q := by
  obtain ⟨A, B, C, oA, oB, oC, e1, _, _⟩ := binds_lexed ha hb hc hi hk
  have s1 := sgAt hi
  have s2 := sgAt hk
  rw [h1] at s1
  rw [h2] at s2
  have h := plain_bad (R := C ++ [endT 0]) oA oB s1 s2
  refine parse_rd_bad e1 hl (y := nd 4 (bT i) x.er y.er) (t := bT k) (R := C ++ [endT 0]) ?_ rfl
  simpa using h
theorem binds_left (h : blev k < blev i ∨ blev i = blev k ∧ 4 < blev i) (hl : (plainB a (bsign i) b (bsign k) c).length ≤ 4096) (hl' : (leftB a (bsign i) b (bsign k) c).length ≤ 4096) : (ParseV (plainB a (bsign i) b (bsign k) c)).Like (ParseV (leftB a (bsign i) b (bsign k) c)) ∧ (ParseV (plainB a (bsign i) b (bsign k) c)).mild := by
  obtain ⟨A, B, C, oA, oB, oC, e1, e2, _⟩ := binds_lexed ha hb hc hi hk
  have h1 := plain_left (R := []) oA oB oC (sgAt hi) (sgAt hk) (end_stops (e := endT 0) rfl) end_nosg h
  have h2 := brackets_left (R := []) oA oB oC (sgAt hi) (sgAt hk) (end_stops (e := endT 0) rfl) end_nosg
  obtain ⟨u, hu, h3⟩ := parse_rd e1 hl (by simpa using h1)
  obtain ⟨v, hv, h4⟩ := parse_rd e2 hl' (by simpa using h2)
  rw [h3, h4]
  exact ⟨treeV_like (hu.trans hv.symm), treeV_mild u⟩
theorem binds_right (h : blev i < blev k ∨ blev i = blev k ∧ blev i < 4) (hl : (plainB a (bsign i) b (bsign k) c).length ≤ 4096) (hl' : (rightB a (bsign i) b (bsign k) c).length ≤ 4096) : (ParseV (plainB a (bsign i) b (bsign k) c)).Like (ParseV (rightB a (bsign i) b (bsign k) c)) ∧ (ParseV (plainB a (bsign i) b (bsign k) c)).mild := by
  obtain ⟨A, B, C, oA, oB, oC, e1, _, e2⟩ := binds_lexed ha hb hc hi hk
  have h1 := plain_right (R := []) oA oB oC (sgAt hi) (sgAt hk) (end_stops (e := endT 0) rfl) end_nosg h
  have h2 := brackets_right (R := []) oA oB oC (sgAt hi) (sgAt hk) (end_stops (e := endT 0) rfl) end_nosg
  obtain ⟨u, hu, h3⟩ := parse_rd e1 hl (by simpa using h1)
  obtain ⟨v, hv, h4⟩ := parse_rd e2 hl' (by simpa using h2)
  rw [h3, h4]
  exact ⟨treeV_like (hu.trans hv.symm), treeV_mild u⟩
end
end
end Go.Proofs.YtecpldnjpapalaaDoor
