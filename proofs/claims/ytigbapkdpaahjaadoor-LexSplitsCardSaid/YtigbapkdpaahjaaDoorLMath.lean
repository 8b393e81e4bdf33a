/-
  Plain facts: which tokens a text of bytes has, token by token; what stands first; what blanks behind and ahead change; where tokens stand.
-/
import Derived.Test.YtigbapkdpaahjaaDoorBack
namespace Go.Proofs.YtigbapkdpaahjaaDoor
open Go.RowKit
theorem dig_back (c : UInt8) (h : isDig c = true) : UInt8.ofNat (48 + (c.toNat - 48)) = c ∧ 48 ≤ c.toNat ∧ c.toNat ≤ 57 := by
  unfold isDig at h
  simp only [Bool.and_eq_true, decide_eq_true_eq] at h
  refine ⟨?_, h⟩
  rw [show 48 + (c.toNat - 48) = c.toNat by omega]
  simp
theorem readGo_nn {l : List UInt8} : ∀ {m n : Int}, 0 ≤ m → l.all isDig = true → readGo m l = some n → 0 ≤ n := by
  induction l with
  | nil => intro m n hm _ h; rw [readGo] at h; cases h; exact hm
  | cons c r ih =>
    intro m n hm ha h
    rw [List.all_cons, Bool.and_eq_true] at ha
    obtain ⟨_, h1, _⟩ := dig_back c ha.1
    rw [readGo] at h
    split at h
    · cases h
    · exact ih (by omega) ha.2 h
/-- What was read is printed as it was. -/
theorem readGo_dec_back (k : Nat) : ∀ (l : List UInt8) (n : Int), l.length = k → l ≠ [] → l.all isDig = true → l.head? ≠ some 48 → readGo 0 l = some n → 1 ≤ n ∧ Lib.decDigits n.toNat = l := by
  induction k with
  | zero => intro l n hl hne; exact absurd (List.length_eq_zero_iff.1 hl) hne
  | succ k ih =>
    intro l n hl hne ha hh hr
    obtain ⟨a, c, rfl⟩ : ∃ a c, l = a ++ [c] := ⟨l.dropLast, l.getLast hne, (List.dropLast_concat_getLast hne).symm⟩
    rw [List.all_append, Bool.and_eq_true] at ha
    obtain ⟨hc1, hc2, hc3⟩ := dig_back c (by simpa using ha.2)
    rw [readGo_append] at hr
    cases ha0 : readGo 0 a with
    | none => rw [ha0] at hr; simp at hr
    | some m =>
      rw [ha0, Option.bind_some, readGo] at hr
      split at hr
      · cases hr
      · rw [readGo] at hr
        have hn : n = 10 * m + ((c.toNat : Int) - 48) := (Option.some.inj hr).symm
        by_cases hae : a = []
        · subst hae
          rw [readGo] at ha0
          have hm : m = 0 := (Option.some.inj ha0).symm
          have hc : c.toNat ≠ 48 := fun h => by
            have : c = 48 := UInt8.toNat_inj.1 h
            subst this
            exact hh rfl
          refine ⟨by omega, ?_⟩
          rw [Lib.decDigits, dif_pos (by omega), show n.toNat = c.toNat - 48 by omega, hc1]
          rfl
        · have hha : a.head? ≠ some 48 := by
            cases a with
            | nil => exact absurd rfl hae
            | cons x a => simpa using hh
          obtain ⟨h1, h2⟩ := ih a m (by simpa using hl) hae ha.1 hha ha0
          refine ⟨by omega, ?_⟩
          rw [Lib.decDigits, dif_neg (by omega), show n.toNat / 10 = m.toNat by omega, h2, show n.toNat % 10 = c.toNat - 48 by omega, hc1]
theorem readV_back {l : List UInt8} {n : Int} (h : ReadV l = (n, 0)) : Lib.itoa n = l ∧ 0 ≤ n := by
  unfold ReadV at h
  split at h
  · rename_i hn
    split at h
    · rename_i m hm
      obtain rfl : m = n := congrArg Prod.fst h
      unfold isNum at hn
      simp only [Bool.and_eq_true, Bool.or_eq_true, decide_eq_true_eq] at hn
      obtain ⟨ha, h0 | ⟨h1, h2⟩⟩ := hn
      · subst h0
        have : readGo 0 [48] = some 0 := by decide
        rw [this] at hm
        cases hm
        refine ⟨?_, by omega⟩
        unfold Lib.itoa
        rw [if_neg (by decide), Lib.decDigits, dif_pos (by decide)]
        rfl
      · obtain ⟨h3, h4⟩ := readGo_dec_back _ l m rfl h1 ha h2 hm
        refine ⟨?_, by omega⟩
        unfold Lib.itoa
        rw [if_neg (by omega), h4]
    · cases h
  · cases h
theorem readV_err {l : List UInt8} : (ReadV l).2 = 0 ∨ (ReadV l).2 = 2 ∨ (ReadV l).2 = 5 := by
  unfold ReadV
  split
  · split
    · exact .inl rfl
    · exact .inr (.inl rfl)
  · exact .inr (.inr rfl)
theorem unq_back_of : ∀ (f : Nat) (l r : List UInt8), l.length ≤ f → unq f l = some r → qbody r = l
  | 0, l, r, hl, h => by
    obtain rfl : l = [] := List.length_eq_zero_iff.1 (by omega)
    rw [unq_nil] at h
    cases h; rfl
  | f + 1, l, r, hl, h => by
    rw [unq] at h
    split at h
    · rename_i h0; cases h; rw [h0]; rfl
    · have hM := Mn_lt l
      generalize Mn l = M at *
      split at h
      · rename_i hne hp
        obtain ⟨t, rfl⟩ := pre_iff hp
        rw [List.drop_left] at h
        cases hu : unq f t with
        | none => rw [hu] at h; cases h
        | some r' =>
          rw [hu] at h
          obtain rfl : UInt8.ofNat M :: r' = r := Option.some.inj h
          have hq := qf_pos' M
          rw [List.length_append] at hl
          have hb := unq_back_of f t r' (by omega) hu
          have h1 : (UInt8.ofNat M).toNat = M := by simp only [UInt8.toNat_ofNat']; omega
          rw [qbody_cons, hb, h1]
      · cases h
theorem unqV_of {l r : List UInt8} (h : UnqV l = (r, 0)) : qall r = l ∧ 2 ≤ l.length := by
  unfold UnqV at h
  split at h
  · cases h
  · rename_i hx
    simp only [not_or, Classical.not_not] at hx
    obtain ⟨h0, h1, h2⟩ := hx
    split at h
    · rename_i x hu
      obtain rfl : x = r := congrArg Prod.fst h
      refine ⟨?_, by omega⟩
      have hb := unq_back_of l.length _ x (by rw [List.length_take, List.length_drop]; omega) hu
      unfold qall
      rw [hb]
      match l, h0, h1, h2 with
      | c :: d :: m, _, h1, h2 =>
        have hc : c = 34 := h1
        subst hc
        have hl : (34 :: d :: m).length - 1 = m.length + 1 := by simp
        rw [hl] at h2
        have e1 : ((34 :: d :: m).length - 2) = m.length := by simp
        rw [e1]
        congr 1
        show List.take m.length (d :: m) ++ [34] = d :: m
        have h3 : (d :: m).getD m.length 0 = 34 := h2
        have h4 : (d :: m)[m.length]'(by simp) = 34 := by rw [← h3]; simp [List.getD_eq_getElem?_getD]
        rw [← h4, ← List.take_succ_eq_append_getElem (by simp)]
        exact List.take_of_length_le (by simp)
    · cases h
def isLow (c : UInt8) : Bool := (decide (97 ≤ c.toNat) && decide (c.toNat ≤ 122)) || decide (c.toNat = 95)
def isUp (c : UInt8) : Bool := decide (65 ≤ c.toNat) && decide (c.toNat ≤ 90)
def isBody (c : UInt8) : Bool := isLow c || isUp c || isDig c
def isBlank (c : UInt8) : Bool := decide (c = 32) || decide (c = 10)
/-- The words. -/
def keyL : List (List UInt8) := [[108, 101, 116], [114, 101, 99], [105, 110], [102, 117, 110], [109, 97, 116, 99, 104], [119, 105, 116, 104], [101, 110, 100], [105, 102], [116, 104, 101, 110], [101, 108, 115, 101], [116, 114, 117, 101], [102, 97, 108, 115, 101], [114, 97, 105, 115, 101], [116, 114, 121], [110, 111, 116], [114, 101, 102], [97, 114, 114, 97, 121], [103, 101, 116], [115, 101, 116], [108, 101, 110], [115, 105, 122, 101], [98, 121, 116, 101], [99, 97, 116], [103, 101, 116, 99], [112, 117, 116, 99]]
/-- The signs, those of two bytes first. -/
def signL : List (List UInt8) := [[45, 62], [58, 61], [38, 38], [124, 124], [40], [41], [123], [125], [61], [59], [44], [46], [124], [43], [45], [42], [47], [37], [60], [33]]
/-- A token without its place. -/
structure TK where
  kind : Int
  text : List UInt8
  n : Int
/-- What stands first: a token and how many bytes it has, or what is wrong. -/
inductive OneR
  | tok (t : TK) (size : Nat)
  | err (e : Int)
/-- How many bytes a quoted text has, of which i have been seen; 0: it has no end. -/
def qscan (odd : Bool) (i : Nat) : List UInt8 → Nat
  | [] => 0
  | c :: r => if c = 34 ∧ odd = false then i + 1 else qscan (decide (c = 92) && !odd) (i + 1) r
def qsize (l : List UInt8) : Nat := qscan false 1 (l.drop 1)
def nameOf (l : List UInt8) : List UInt8 := l.takeWhile isBody
def strTok (l : List UInt8) : OneR := if (UnqV (l.take (qsize l))).2 = 0 then .tok ⟨5, (UnqV (l.take (qsize l))).1, 0⟩ (qsize l) else .err 20
def intTok (l : List UInt8) : OneR := if (ReadV (nameOf l)).2 = 0 then .tok ⟨4, [], (ReadV (nameOf l)).1⟩ (nameOf l).length else .err (if (ReadV (nameOf l)).2 = 5 then 20 else (ReadV (nameOf l)).2)
def signTok (l : List UInt8) : OneR := match signL.find? (·.isPrefixOf l) with
  | some s => .tok ⟨7, s, 0⟩ s.length
  | none => .err 20
def tagTok (r : List UInt8) : OneR := if r.head?.any isUp = true then .tok ⟨3, nameOf r, 0⟩ (1 + (nameOf r).length) else .err 20
def isKey (l : List UInt8) : Bool := keyL.contains l
def oneV : List UInt8 → OneR
  | [] => .err 20
  | c :: r =>
    if isLow c = true then .tok ⟨if isKey (nameOf (c :: r)) = true then 6 else 1, nameOf (c :: r), 0⟩ (nameOf (c :: r)).length
    else if isUp c = true then .tok ⟨2, nameOf (c :: r), 0⟩ (nameOf (c :: r)).length
    else if c = 35 then tagTok r
    else if isDig c = true then intTok (c :: r)
    else if c = 34 then strTok (c :: r)
    else signTok (c :: r)
theorem oneV_cons (c : UInt8) (r : List UInt8) : oneV (c :: r) =
    if isLow c = true then .tok ⟨if isKey (nameOf (c :: r)) = true then 6 else 1, nameOf (c :: r), 0⟩ (nameOf (c :: r)).length
    else if isUp c = true then .tok ⟨2, nameOf (c :: r), 0⟩ (nameOf (c :: r)).length
    else if c = 35 then tagTok r
    else if isDig c = true then intTok (c :: r)
    else if c = 34 then strTok (c :: r)
    else signTok (c :: r) := rfl
/-- A token's text. -/
def tokText (t : TK) : List UInt8 := if t.kind = 3 then 35 :: t.text else if t.kind = 4 then Lib.itoa t.n else if t.kind = 5 then qall t.text else t.text
theorem body_low {c : UInt8} (h : isLow c = true) : isBody c = true := by unfold isBody; rw [h]; rfl
theorem body_up {c : UInt8} (h : isUp c = true) : isBody c = true := by unfold isBody; rw [h]; simp
theorem body_dig {c : UInt8} (h : isDig c = true) : isBody c = true := by unfold isBody; rw [h]; simp
theorem blank_not {c : UInt8} (h : isBlank c = true) : isBody c = false ∧ isLow c = false ∧ isUp c = false ∧ isDig c = false ∧ c ≠ 35 ∧ c ≠ 34 := by
  unfold isBlank at h
  simp only [Bool.or_eq_true, decide_eq_true_eq] at h
  rcases h with rfl | rfl <;> decide
theorem nameOf_cons {c : UInt8} (h : isBody c = true) (r : List UInt8) : nameOf (c :: r) = c :: nameOf r := by
  unfold nameOf; rw [List.takeWhile_cons, if_pos h]
theorem nameOf_not {c : UInt8} (h : isBody c = false) (r : List UInt8) : nameOf (c :: r) = [] := by
  unfold nameOf; rw [List.takeWhile_cons, if_neg (by rw [h]; decide)]
theorem nameOf_stop (l m : List UInt8) : nameOf (l ++ 32 :: m) = nameOf l := by
  induction l with
  | nil => exact nameOf_not (by decide) m
  | cons c r ih =>
    by_cases hc : isBody c = true
    · rw [List.cons_append, nameOf_cons hc, nameOf_cons hc, ih]
    · rw [List.cons_append, nameOf_not (by simpa using hc), nameOf_not (by simpa using hc)]
theorem nameOf_self (l : List UInt8) : nameOf (nameOf l) = nameOf l := by
  induction l with
  | nil => rfl
  | cons c r ih =>
    by_cases hc : isBody c = true
    · rw [nameOf_cons hc, nameOf_cons hc, ih]
    · rw [nameOf_not (by simpa using hc)]; rfl
theorem nameOf_take (l : List UInt8) : l.take (nameOf l).length = nameOf l := by
  induction l with
  | nil => rfl
  | cons c r ih =>
    by_cases hc : isBody c = true
    · rw [nameOf_cons hc, List.length_cons, List.take_succ_cons, ih]
    · rw [nameOf_not (by simpa using hc)]; rfl
theorem nameOf_len (l : List UInt8) : (nameOf l).length ≤ l.length := by
  rw [← nameOf_take l, List.length_take]; omega
theorem nameOf_all (l : List UInt8) : (nameOf l).all isBody = true := by
  induction l with
  | nil => rfl
  | cons c r ih =>
    by_cases hc : isBody c = true
    · rw [nameOf_cons hc, List.all_cons, hc, ih]; rfl
    · rw [nameOf_not (by simpa using hc)]; rfl
theorem qscan_range : ∀ (l : List UInt8) (odd : Bool) (i : Nat), qscan odd i l = 0 ∨ i < qscan odd i l ∧ qscan odd i l ≤ i + l.length
  | [], _, _ => .inl rfl
  | c :: r, odd, i => by
    rw [qscan]
    split
    · exact .inr ⟨by omega, by rw [List.length_cons]; omega⟩
    · rcases qscan_range r (decide (c = 92) && !odd) (i + 1) with h | ⟨h1, h2⟩
      · exact .inl h
      · exact .inr ⟨by omega, by rw [List.length_cons]; omega⟩
theorem qscan_more : ∀ (l m : List UInt8) (odd : Bool) (i : Nat), qscan odd i l ≠ 0 → qscan odd i (l ++ m) = qscan odd i l
  | [], _, _, _, h => absurd rfl h
  | c :: r, m, odd, i, h => by
    rw [List.cons_append, qscan, qscan]
    rw [qscan] at h
    split
    · rfl
    · rename_i hx
      rw [if_neg hx] at h
      exact qscan_more r m _ _ h
theorem qscan_blanks : ∀ (k : Nat) (odd : Bool) (i : Nat), qscan odd i (List.replicate k 32) = 0
  | 0, _, _ => rfl
  | k + 1, odd, i => by
    rw [List.replicate_succ, qscan, if_neg (by simp)]
    exact qscan_blanks k _ _
theorem qscan_none : ∀ (l : List UInt8) (k : Nat) (odd : Bool) (i : Nat), qscan odd i l = 0 → qscan odd i (l ++ List.replicate k 32) = 0
  | [], k, odd, i, _ => qscan_blanks k odd i
  | c :: r, k, odd, i, h => by
    rw [List.cons_append, qscan]
    rw [qscan] at h
    split
    · rename_i hx
      rw [if_pos hx] at h
      omega
    · rename_i hx
      rw [if_neg hx] at h
      exact qscan_none r k _ _ h
theorem qscan_take : ∀ (l : List UInt8) (odd : Bool) (i : Nat), qscan odd i l ≠ 0 → qscan odd i (l.take (qscan odd i l - i)) = qscan odd i l
  | [], _, _, h => absurd rfl h
  | c :: r, odd, i, h => by
    rw [qscan] at h ⊢
    split
    · rename_i hx
      rw [show i + 1 - i = 0 + 1 by omega, List.take_succ_cons, qscan, if_pos hx]
    · rename_i hx
      rw [if_neg hx] at h
      have ih := qscan_take r (decide (c = 92) && !odd) (i + 1) h
      rcases qscan_range r (decide (c = 92) && !odd) (i + 1) with h0 | ⟨h1, h2⟩
      · exact absurd h0 h
      · generalize qscan (decide (c = 92) && !odd) (i + 1) r = n at *
        rw [show n - i = (n - (i + 1)) + 1 by omega, List.take_succ_cons, qscan, if_neg hx]
        exact ih
theorem qsize_le (l : List UInt8) : qsize l ≤ l.length := by
  unfold qsize
  rcases qscan_range (l.drop 1) false 1 with h | ⟨h1, h2⟩
  · omega
  · rw [List.length_drop] at h2
    cases l with
    | nil => simp [qscan]
    | cons c r => rw [List.length_cons] at h2 ⊢; omega
theorem qsize_more {l : List UInt8} (m : List UInt8) (hl : l ≠ []) (h : qsize l ≠ 0) : qsize (l ++ m) = qsize l := by
  cases l with
  | nil => exact absurd rfl hl
  | cons c r => exact qscan_more r m false 1 h
theorem qsize_blanks {l : List UInt8} (k : Nat) (hl : l ≠ []) : qsize (l ++ List.replicate k 32) = qsize l := by
  by_cases h : qsize l = 0
  · cases l with
    | nil => exact absurd rfl hl
    | cons c r =>
      rw [h]
      exact qscan_none r k false 1 h
  · exact qsize_more _ hl h
theorem qsize_take {l : List UInt8} (h : qsize l ≠ 0) : qsize (l.take (qsize l)) = qsize l := by
  cases l with
  | nil => exact absurd rfl h
  | cons c r =>
    have h1 : qsize (c :: r) = qscan false 1 r := rfl
    have h2 := qscan_take r false 1 h
    rcases qscan_range r false 1 with h0 | ⟨h3, h4⟩
    · exact absurd h0 h
    · rw [h1]
      generalize qscan false 1 r = n at *
      rw [show n = (n - 1) + 1 by omega, List.take_succ_cons]
      rw [show n - 1 + 1 = n by omega]
      exact h2
theorem sign_blank : ∀ s ∈ signL, ∀ c ∈ s, c ≠ 32 := by decide
theorem sign_self : ∀ s ∈ signL, signL.find? (·.isPrefixOf s) = some s ∧ 1 ≤ s.length ∧ s.length ≤ 2 := by decide
theorem sign_head : ∀ s ∈ signL, ∃ c r, s = c :: r ∧ isLow c = false ∧ isUp c = false ∧ c ≠ 35 ∧ isDig c = false ∧ c ≠ 34 ∧ isBlank c = false := by
  intro s hs
  have h : ∀ s ∈ signL, (match s with | [] => false | c :: _ => !isLow c && !isUp c && !(decide (c = 35)) && !isDig c && !(decide (c = 34)) && !isBlank c) = true := by decide
  have := h s hs
  cases s with
  | nil => cases this
  | cons c r =>
    simp only [Bool.and_eq_true, Bool.not_eq_true', decide_eq_false_iff_not] at this
    obtain ⟨⟨⟨⟨⟨h1, h2⟩, h3⟩, h4⟩, h5⟩, h6⟩ := this
    exact ⟨c, r, rfl, h1, h2, h3, h4, h5, h6⟩
theorem prefix_stop : ∀ (s l m : List UInt8), (∀ c ∈ s, c ≠ 32) → s.isPrefixOf (l ++ 32 :: m) = s.isPrefixOf l
  | [], l, m, _ => by simp
  | c :: s, [], m, h => by
    have : c ≠ 32 := h c (by simp)
    show ((c == 32) && s.isPrefixOf m) = false
    rw [beq_eq_false_iff_ne.2 this]; rfl
  | c :: s, d :: l, m, h => by
    show ((c == d) && s.isPrefixOf (l ++ 32 :: m)) = ((c == d) && s.isPrefixOf l)
    rw [prefix_stop s l m fun x hx => h x (by simp [hx])]
theorem find_same {α : Type} (p q : α → Bool) : ∀ (l : List α), (∀ x ∈ l, p x = q x) → l.find? p = l.find? q
  | [], _ => rfl
  | x :: l, h => by rw [List.find?_cons, List.find?_cons, h x (by simp), find_same p q l fun y hy => h y (by simp [hy])]
theorem signTok_stop (l m : List UInt8) : signTok (l ++ 32 :: m) = signTok l := by
  unfold signTok
  rw [find_same _ (·.isPrefixOf l) signL fun s hs => prefix_stop s l m (sign_blank s hs)]
theorem unqV_nil : (UnqV []).2 = 5 := by unfold UnqV; rw [if_pos (by simp)]
theorem strTok_same {l m : List UInt8} (hq : qsize (l ++ m) = qsize l) : strTok (l ++ m) = strTok l := by
  unfold strTok
  rw [hq, List.take_append_of_le_length (qsize_le l)]
theorem tagTok_stop (r m : List UInt8) : tagTok (r ++ 32 :: m) = tagTok r := by
  unfold tagTok
  rw [nameOf_stop]
  have : (r ++ 32 :: m).head?.any isUp = r.head?.any isUp := by
    cases r with
    | nil => rfl
    | cons c r => rfl
  rw [this]
/-- What stands first is the same if a blank stands behind. -/
theorem oneV_stop {l : List UInt8} (m : List UInt8) (hl : l ≠ []) (hq : qsize (l ++ 32 :: m) = qsize l ∨ l.head? ≠ some 34) : oneV (l ++ 32 :: m) = oneV l := by
  cases l with
  | nil => exact absurd rfl hl
  | cons c r =>
    have hn := nameOf_stop (c :: r) m
    have hs := signTok_stop (c :: r) m
    have ht := tagTok_stop r m
    rw [List.cons_append] at hn hs hq ⊢
    rw [oneV_cons, oneV_cons, hn, hs, ht]
    have hi : intTok (c :: (r ++ 32 :: m)) = intTok (c :: r) := by unfold intTok; rw [hn]
    rw [hi]
    by_cases h34 : c = 34
    · subst h34
      rcases hq with hq | hq
      · have := strTok_same (l := 34 :: r) (m := 32 :: m) hq
        rw [List.cons_append] at this
        rw [this]
      · exact absurd rfl hq
    · rw [if_neg h34, if_neg h34]
theorem oneV_quote {l : List UInt8} {t : TK} {n : Nat} (h : oneV l = .tok t n) (h34 : l.head? = some 34) : qsize l ≠ 0 := by
  cases l with
  | nil => cases h34
  | cons c r =>
    obtain rfl : c = 34 := Option.some.inj h34
    have h : strTok (34 :: r) = .tok t n := h
    intro h0
    unfold strTok at h
    rw [h0, List.take_zero, unqV_nil, if_neg (by decide)] at h
    cases h
theorem oneV_more {l : List UInt8} {t : TK} {n : Nat} (h : oneV l = .tok t n) (m : List UInt8) : oneV (l ++ 32 :: m) = .tok t n := by
  have hl : l ≠ [] := fun e => by rw [e] at h; cases h
  rw [← h]
  by_cases h34 : l.head? = some 34
  · exact oneV_stop m hl (.inl (qsize_more _ hl (oneV_quote h h34)))
  · exact oneV_stop m hl (.inr h34)
theorem oneV_blanks {l : List UInt8} (hl : l ≠ []) (k : Nat) : oneV (l ++ List.replicate k 32) = oneV l := by
  cases k with
  | zero => rw [List.replicate_zero, List.append_nil]
  | succ k =>
    rw [List.replicate_succ]
    refine oneV_stop _ hl (.inl ?_)
    have := qsize_blanks (k + 1) hl
    rw [List.replicate_succ] at this
    exact this
theorem isUp_not_low {c : UInt8} (h : isUp c = true) : isLow c = false := by
  unfold isUp at h; unfold isLow
  simp only [Bool.and_eq_true, decide_eq_true_eq] at h
  simp only [Bool.or_eq_false_iff, Bool.and_eq_false_iff, decide_eq_false_iff_not]
  omega
theorem isDig_not {c : UInt8} (h : isDig c = true) : isLow c = false ∧ isUp c = false ∧ c ≠ 35 ∧ c ≠ 34 := by
  unfold isDig at h
  simp only [Bool.and_eq_true, decide_eq_true_eq] at h
  refine ⟨?_, ?_, ?_, ?_⟩
  · unfold isLow
    simp only [Bool.or_eq_false_iff, Bool.and_eq_false_iff, decide_eq_false_iff_not]
    omega
  · unfold isUp
    simp only [Bool.and_eq_false_iff, decide_eq_false_iff_not]
    omega
  · rintro rfl; exact absurd h.1 (by decide)
  · rintro rfl; exact absurd h.1 (by decide)
/-- A token stands by itself: its text begins with no blank, and is read as it. -/
structure Good (t : TK) : Prop where
  self : oneV (tokText t) = .tok t (tokText t).length
  head : ∃ c r, tokText t = c :: r ∧ isBlank c = false
theorem not_blank {c : UInt8} (h : isBody c = true) : isBlank c = false := by
  cases hb : isBlank c with
  | false => rfl
  | true => rw [(blank_not hb).1] at h; cases h
/-- What a token's text is, and how long. -/
theorem oneV_tok {l : List UInt8} {t : TK} {n : Nat} (h : oneV l = .tok t n) : l.take n = tokText t ∧ n ≤ l.length ∧ 1 ≤ n ∧ 1 ≤ t.kind ∧ Good t := by
  cases l with
  | nil => cases h
  | cons c r =>
    rw [oneV_cons] at h
    split at h
    · rename_i hc
      have hb := body_low hc
      obtain ⟨rfl, rfl⟩ := OneR.tok.inj h
      have hx : tokText ⟨if isKey (nameOf (c :: r)) = true then 6 else 1, nameOf (c :: r), 0⟩ = nameOf (c :: r) := by
        split <;> rfl
      refine ⟨?_, nameOf_len _, ?_, ?_, ?_, ?_⟩
      · rw [hx]; exact nameOf_take _
      · rw [nameOf_cons hb]; simp
      · show (1 : Int) ≤ if isKey (nameOf (c :: r)) = true then 6 else 1
        split <;> omega
      · rw [hx]
        have he := nameOf_self (c :: r)
        rw [nameOf_cons hb] at he ⊢
        rw [oneV_cons, if_pos hc, he]
      · rw [hx, nameOf_cons hb]; exact ⟨_, _, rfl, not_blank hb⟩
    · rename_i hlow
      split at h
      · rename_i hc
        have hb := body_up hc
        obtain ⟨rfl, rfl⟩ := OneR.tok.inj h
        have hx : tokText ⟨2, nameOf (c :: r), 0⟩ = nameOf (c :: r) := rfl
        refine ⟨?_, nameOf_len _, ?_, (by decide : (1 : Int) ≤ 2), ?_, ?_⟩
        · rw [hx]; exact nameOf_take _
        · rw [nameOf_cons hb]; simp
        · rw [hx]
          have he := nameOf_self (c :: r)
          rw [nameOf_cons hb] at he ⊢
          rw [oneV_cons, if_neg hlow, if_pos hc, he]
        · rw [hx, nameOf_cons hb]; exact ⟨_, _, rfl, not_blank hb⟩
      · rename_i hup
        split at h
        · rename_i hc
          subst hc
          unfold tagTok at h
          split at h
          · rename_i hr
            obtain ⟨rfl, rfl⟩ := OneR.tok.inj h
            have hx : tokText ⟨3, nameOf r, 0⟩ = 35 :: nameOf r := rfl
            cases r with
            | nil => cases hr
            | cons d r =>
              have hd : isUp d = true := hr
              refine ⟨?_, ?_, by omega, (by decide : (1 : Int) ≤ 3), ?_, ?_⟩
              · rw [hx, Nat.add_comm, List.take_succ_cons, nameOf_take]
              · have := nameOf_len (d :: r)
                rw [List.length_cons]; omega
              · rw [hx]
                have he := nameOf_self (d :: r)
                rw [nameOf_cons (body_up hd)] at he ⊢
                rw [oneV_cons, if_neg (by decide), if_neg (by decide), if_pos rfl]
                unfold tagTok
                have hd2 : (d :: nameOf r).head?.any isUp = true := hd
                rw [if_pos hd2, he, Nat.add_comm]; rfl
              · rw [hx]; exact ⟨_, _, rfl, by decide⟩
          · cases h
        · rename_i h35
          split at h
          · rename_i hc
            have hb := body_dig hc
            unfold intTok at h
            split at h
            · rename_i hr
              obtain ⟨rfl, rfl⟩ := OneR.tok.inj h
              have hv : ReadV (nameOf (c :: r)) = ((ReadV (nameOf (c :: r))).1, 0) := by rw [← hr]
              obtain ⟨hi, _⟩ := readV_back hv
              have hx : tokText ⟨4, [], (ReadV (nameOf (c :: r))).1⟩ = nameOf (c :: r) := hi
              refine ⟨?_, nameOf_len _, ?_, (by decide : (1 : Int) ≤ 4), ?_, ?_⟩
              · rw [hx]; exact nameOf_take _
              · rw [nameOf_cons hb]; simp
              · rw [hx]
                have he := nameOf_self (c :: r)
                rw [nameOf_cons hb] at he hr ⊢
                rw [oneV_cons, if_neg hlow, if_neg hup, if_neg h35, if_pos hc]
                unfold intTok
                rw [he, if_pos hr]
              · rw [hx, nameOf_cons hb]; exact ⟨_, _, rfl, not_blank hb⟩
            · cases h
          · rename_i hdig
            split at h
            · rename_i hc
              subst hc
              unfold strTok at h
              split at h
              · rename_i hr
                obtain ⟨rfl, rfl⟩ := OneR.tok.inj h
                have hv : UnqV ((34 :: r).take (qsize (34 :: r))) = ((UnqV ((34 :: r).take (qsize (34 :: r)))).1, 0) := by rw [← hr]
                obtain ⟨hi, hl2⟩ := unqV_of hv
                have hx : tokText ⟨5, (UnqV ((34 :: r).take (qsize (34 :: r)))).1, 0⟩ = (34 :: r).take (qsize (34 :: r)) := hi
                have hq := qsize_le (34 :: r)
                rw [List.length_take] at hl2
                have hq0 : qsize (34 :: r) ≠ 0 := by omega
                have ht := qsize_take hq0
                refine ⟨hx.symm, hq, by omega, (by decide : (1 : Int) ≤ 5), ?_, ?_⟩
                · rw [hx]
                  have hlt : ((34 :: r).take (qsize (34 :: r))).length = qsize (34 :: r) := by rw [List.length_take]; omega
                  obtain ⟨r', hr'⟩ : ∃ r', (34 :: r).take (qsize (34 :: r)) = 34 :: r' := by
                    obtain ⟨k, hk⟩ : ∃ k, qsize (34 :: r) = k + 1 := ⟨qsize (34 :: r) - 1, by omega⟩
                    rw [hk, List.take_succ_cons]; exact ⟨_, rfl⟩
                  generalize qsize (34 :: r) = q at *
                  rw [hr'] at hr ht hlt ⊢
                  rw [oneV_cons, if_neg (by decide), if_neg (by decide), if_neg (by decide), if_neg (by decide), if_pos rfl]
                  unfold strTok
                  rw [ht, List.take_of_length_le (by omega), if_pos hr, hlt]
                · rw [hx]
                  obtain ⟨k, hk⟩ : ∃ k, qsize (34 :: r) = k + 1 := ⟨qsize (34 :: r) - 1, by omega⟩
                  rw [hk, List.take_succ_cons]
                  exact ⟨_, _, rfl, by decide⟩
              · cases h
            · rename_i h34
              unfold signTok at h
              split at h
              · rename_i s hs
                obtain ⟨rfl, rfl⟩ := OneR.tok.inj h
                have hm := List.mem_of_find?_eq_some hs
                have hp := List.find?_some hs
                simp only [List.isPrefixOf_iff_prefix] at hp
                obtain ⟨m, hm2⟩ := hp
                obtain ⟨h1, h2, h3⟩ := sign_self s hm
                obtain ⟨d, q, rfl, g1, g2, g3, g4, g5, g6⟩ := sign_head s hm
                have hx : tokText ⟨7, d :: q, 0⟩ = d :: q := rfl
                refine ⟨?_, ?_, h2, (by decide : (1 : Int) ≤ 7), ?_, ⟨_, _, hx, g6⟩⟩
                · rw [hx, ← hm2, List.take_left]
                · rw [← hm2, List.length_append]; omega
                · rw [hx, oneV_cons, if_neg (by rw [g1]; decide), if_neg (by rw [g2]; decide), if_neg g3, if_neg (by rw [g4]; decide), if_neg g5]
                  unfold signTok
                  rw [h1]
              · cases h
/-- All tokens, or what is wrong first, and where. -/
inductive LR
  | ok (T : List (TK × Nat))
  | bad (e : Int) (at_ : Nat)
def LR.add (x : List (TK × Nat)) : LR → LR
  | .ok T => .ok (x ++ T)
  | .bad e q => .bad e q
def LR.shift (d : Nat) : LR → LR
  | .ok T => .ok (T.map fun t => (t.1, t.2 + d))
  | .bad e q => .bad e (q + d)
def lexGo : Nat → Nat → List UInt8 → LR
  | _, _, [] => .ok []
  | p, k + 1, _ :: r => lexGo (p + 1) k r
  | p, 0, c :: r =>
    if isBlank c = true then lexGo (p + 1) 0 r
    else match oneV (c :: r) with
      | .err e => .bad e p
      | .tok t n => (lexGo (p + 1) (n - 1) r).add [(t, p)]
theorem lexGo_nil (p k : Nat) : lexGo p k [] = .ok [] := by cases k <;> rfl
theorem lexGo_blank {c : UInt8} (hc : isBlank c = true) (p : Nat) (r : List UInt8) : lexGo p 0 (c :: r) = lexGo (p + 1) 0 r := by rw [lexGo, if_pos hc]
theorem lexGo_err {c : UInt8} (hc : isBlank c = false) (p : Nat) {r : List UInt8} {e : Int} (h : oneV (c :: r) = .err e) : lexGo p 0 (c :: r) = .bad e p := by
  rw [lexGo, if_neg (by rw [hc]; decide), h]
theorem lexGo_skip : ∀ (k p : Nat) (l : List UInt8), k ≤ l.length → lexGo p k l = lexGo (p + k) 0 (l.drop k)
  | 0, _, _, _ => rfl
  | k + 1, p, [], h => by simp at h
  | k + 1, p, c :: r, h => by
    rw [lexGo, lexGo_skip k (p + 1) r (by simpa using h), List.drop_succ_cons]
    congr 1; omega
theorem lexGo_tok {c : UInt8} (hc : isBlank c = false) (p : Nat) {r : List UInt8} {t : TK} {n : Nat} (h : oneV (c :: r) = .tok t n) : lexGo p 0 (c :: r) = (lexGo (p + n) 0 ((c :: r).drop n)).add [(t, p)] := by
  obtain ⟨_, h2, h3, _⟩ := oneV_tok h
  rw [List.length_cons] at h2
  rw [lexGo, if_neg (by rw [hc]; decide), h]
  show (lexGo (p + 1) (n - 1) r).add [(t, p)] = _
  rw [lexGo_skip _ _ _ (by omega), show p + 1 + (n - 1) = p + n by omega]
  obtain ⟨k, rfl⟩ : ∃ k, n = k + 1 := ⟨n - 1, by omega⟩
  rfl
theorem LR.add_add (x y : List (TK × Nat)) (r : LR) : (r.add y).add x = r.add (x ++ y) := by
  cases r with
  | ok T => show LR.ok (x ++ (y ++ T)) = .ok (x ++ y ++ T); rw [List.append_assoc]
  | bad e q => rfl
theorem LR.add_ok {x : List (TK × Nat)} {r : LR} {T : List (TK × Nat)} (h : r.add x = .ok T) : ∃ U, r = .ok U ∧ T = x ++ U := by
  cases r with
  | ok U => exact ⟨U, rfl, (LR.ok.inj h).symm⟩
  | bad e q => cases h
theorem LR.add_bad {x : List (TK × Nat)} {r : LR} {e : Int} {q : Nat} (h : r.add x = .bad e q) : r = .bad e q := by
  cases r with
  | ok U => cases h
  | bad e q => exact h
/-- By rounds: a blank, a token, or what is wrong. -/
theorem lexGo_ind (P : Nat → List UInt8 → Prop) (h0 : ∀ p, P p []) (hb : ∀ p c r, isBlank c = true → P (p + 1) r → P p (c :: r)) (he : ∀ p c r e, isBlank c = false → oneV (c :: r) = .err e → P p (c :: r))
    (ht : ∀ p c r t n, isBlank c = false → oneV (c :: r) = .tok t n → P (p + n) ((c :: r).drop n) → P p (c :: r)) : ∀ (k p : Nat) (l : List UInt8), l.length ≤ k → P p l
  | 0, p, l, h => by
    obtain rfl : l = [] := List.length_eq_zero_iff.1 (by omega)
    exact h0 p
  | k + 1, p, [], _ => h0 p
  | k + 1, p, c :: r, h => by
    rw [List.length_cons] at h
    cases hc : isBlank c with
    | true => exact hb p c r hc (lexGo_ind P h0 hb he ht k (p + 1) r (by omega))
    | false =>
      cases h1 : oneV (c :: r) with
      | err e => exact he p c r e hc h1
      | tok t n =>
        obtain ⟨_, h2, h3, _⟩ := oneV_tok h1
        exact ht p c r t n hc h1 (lexGo_ind P h0 hb he ht k (p + n) ((c :: r).drop n) (by rw [List.length_drop, List.length_cons]; omega))
theorem lexGo_shift (d : Nat) (p : Nat) (l : List UInt8) : lexGo (p + d) 0 l = (lexGo p 0 l).shift d := by
  refine lexGo_ind (fun p l => lexGo (p + d) 0 l = (lexGo p 0 l).shift d) ?_ ?_ ?_ ?_ l.length p l (Nat.le_refl _)
  · intro p; rfl
  · intro p c r hc ih
    rw [lexGo_blank hc, lexGo_blank hc, ← ih]
    congr 1; omega
  · intro p c r e hc h
    rw [lexGo_err hc _ h, lexGo_err hc _ h]; rfl
  · intro p c r t n hc h ih
    rw [lexGo_tok hc _ h, lexGo_tok hc _ h, show p + d + n = p + n + d by omega, ih]
    cases lexGo (p + n) 0 ((c :: r).drop n) <;> rfl
theorem lexGo_blanks_ahead (b : List UInt8) (hb : ∀ c ∈ b, isBlank c = true) : ∀ (p : Nat) (l : List UInt8), lexGo p 0 (b ++ l) = lexGo (p + b.length) 0 l := by
  induction b with
  | nil => intro p l; rfl
  | cons c b ih =>
    intro p l
    rw [List.cons_append, lexGo_blank (hb c (by simp)), ih (fun d hd => hb d (by simp [hd])), List.length_cons]
    congr 1; omega
/-- Two texts with a blank between them. -/
theorem lexGo_two (m : List UInt8) (p : Nat) (l : List UInt8) : ∀ T, lexGo p 0 l = .ok T → lexGo p 0 (l ++ 32 :: m) = (lexGo (p + l.length + 1) 0 m).add T := by
  refine lexGo_ind (fun p l => ∀ T, lexGo p 0 l = .ok T → lexGo p 0 (l ++ 32 :: m) = (lexGo (p + l.length + 1) 0 m).add T) ?_ ?_ ?_ ?_ l.length p l (Nat.le_refl _)
  · intro p T h
    obtain rfl : [] = T := LR.ok.inj h
    rw [List.nil_append, lexGo_blank (by decide)]
    show lexGo (p + 1) 0 m = (lexGo (p + 0 + 1) 0 m).add []
    cases lexGo (p + 1) 0 m <;> rfl
  · intro p c r hc ih T h
    rw [lexGo_blank hc] at h
    rw [List.cons_append, lexGo_blank hc, ih T h, List.length_cons]
    congr 2; omega
  · intro p c r e hc h T hT
    rw [lexGo_err hc _ h] at hT
    cases hT
  · intro p c r t n hc h ih T hT
    rw [lexGo_tok hc _ h] at hT
    obtain ⟨U, hU, rfl⟩ := LR.add_ok hT
    have h2 := oneV_more h m
    obtain ⟨_, h3, _⟩ := oneV_tok h
    rw [List.cons_append] at h2
    have h4 : (c :: (r ++ 32 :: m)).drop n = (c :: r).drop n ++ 32 :: m := by
      rw [← List.cons_append, List.drop_append_of_le_length h3]
    rw [List.cons_append, lexGo_tok hc _ h2, h4, ih U hU, LR.add_add]
    congr 2
    rw [List.length_drop]; omega
theorem lexGo_blanks (k : Nat) (p : Nat) (l : List UInt8) : lexGo p 0 (l ++ List.replicate k 32) = lexGo p 0 l := by
  refine lexGo_ind (fun p l => lexGo p 0 (l ++ List.replicate k 32) = lexGo p 0 l) ?_ ?_ ?_ ?_ l.length p l (Nat.le_refl _)
  · intro p
    have := lexGo_blanks_ahead (List.replicate k 32) (fun c hc => by rw [List.eq_of_mem_replicate hc]; decide) p []
    rw [List.append_nil] at this
    rw [List.nil_append, this, lexGo_nil, lexGo_nil]
  · intro p c r hc ih
    rw [List.cons_append, lexGo_blank hc, lexGo_blank hc, ih]
  · intro p c r e hc h
    have h2 := oneV_blanks (l := c :: r) (by simp) k
    rw [h, List.cons_append] at h2
    rw [List.cons_append, lexGo_err hc _ h2, lexGo_err hc _ h]
  · intro p c r t n hc h ih
    have h2 := oneV_blanks (l := c :: r) (by simp) k
    obtain ⟨_, h3, _⟩ := oneV_tok h
    rw [h, List.cons_append] at h2
    have h4 : (c :: (r ++ List.replicate k 32)).drop n = (c :: r).drop n ++ List.replicate k 32 := by
      rw [← List.cons_append, List.drop_append_of_le_length h3]
    rw [List.cons_append, lexGo_tok hc _ h2, lexGo_tok hc _ h, h4, ih]
theorem lexGo_good (p : Nat) (l : List UInt8) : ∀ T, lexGo p 0 l = .ok T → ∀ x ∈ T, Good x.1 ∧ 1 ≤ x.1.kind := by
  refine lexGo_ind (fun p l => ∀ T, lexGo p 0 l = .ok T → ∀ x ∈ T, Good x.1 ∧ 1 ≤ x.1.kind) ?_ ?_ ?_ ?_ l.length p l (Nat.le_refl _)
  · intro p T h x hx
    obtain rfl : [] = T := LR.ok.inj h
    cases hx
  · intro p c r hc ih T h
    rw [lexGo_blank hc] at h
    exact ih T h
  · intro p c r e hc h T hT
    rw [lexGo_err hc _ h] at hT; cases hT
  · intro p c r t n hc h ih T hT x hx
    rw [lexGo_tok hc _ h] at hT
    obtain ⟨U, hU, rfl⟩ := LR.add_ok hT
    rcases List.mem_append.1 hx with hx | hx
    · obtain rfl := List.mem_singleton.1 hx
      obtain ⟨_, _, _, h4, h5⟩ := oneV_tok h
      exact ⟨h5, h4⟩
    · exact ih U hU x hx
/-- All tokens' texts, a blank behind each. -/
def spaced (T : List TK) : List UInt8 := T.flatMap fun t => tokText t ++ [32]
theorem spaced_read (T : List TK) (hT : ∀ t ∈ T, Good t) : ∀ p, ∃ U, lexGo p 0 (spaced T ++ [32]) = .ok U ∧ U.map (·.1) = T := by
  induction T with
  | nil =>
    intro p
    refine ⟨[], ?_, rfl⟩
    show lexGo p 0 (32 :: []) = .ok []
    rw [lexGo_blank (by decide)]; rfl
  | cons t T ih =>
    intro p
    obtain ⟨h1, c, r, hc, hb⟩ := hT t (by simp)
    obtain ⟨U, hU, hm⟩ := ih (fun x hx => hT x (by simp [hx])) (p + (tokText t).length + 1)
    have h2 := oneV_more h1 (spaced T ++ [32])
    have hs : spaced (t :: T) ++ [32] = tokText t ++ 32 :: (spaced T ++ [32]) := by
      unfold spaced
      rw [List.flatMap_cons]; simp
    refine ⟨[(t, p)] ++ U, ?_, by rw [List.map_append, hm]; rfl⟩
    rw [hs]
    rw [hc, List.cons_append] at h2 ⊢
    rw [lexGo_tok hb _ h2, ← List.cons_append, List.drop_left, lexGo_blank (by decide)]
    rw [hc] at hU
    rw [hU]; rfl
theorem lexGo_back (p q : Nat) (l : List UInt8) (T : List (TK × Nat)) (h : lexGo p 0 l = .ok T) : ∃ U, lexGo q 0 (spaced (T.map (·.1)) ++ [32]) = .ok U ∧ U.map (·.1) = T.map (·.1) :=
  spaced_read _ (fun t ht => by
    obtain ⟨x, hx, rfl⟩ := List.mem_map.1 ht
    exact (lexGo_good p l T h x hx).1) q
/-- Where tokens stand: blanks between them, each token's text at its place. -/
def Stand (l : List UInt8) : Nat → List (TK × Nat) → Prop
  | p, [] => p ≤ l.length ∧ ∀ c ∈ l.drop p, isBlank c = true
  | p, (t, q) :: T => p ≤ q ∧ q + (tokText t).length ≤ l.length ∧ (∀ c ∈ (l.drop p).take (q - p), isBlank c = true) ∧ (l.drop q).take (tokText t).length = tokText t ∧ Stand l (q + (tokText t).length) T
theorem Stand.blank {l : List UInt8} {p : Nat} {T : List (TK × Nat)} (h : Stand l (p + 1) T) {c : UInt8} {r : List UInt8} (hl : l.drop p = c :: r) (hc : isBlank c = true) : Stand l p T := by
  have hd : l.drop (p + 1) = r := by rw [← List.drop_drop, hl]; rfl
  cases T with
  | nil =>
    obtain ⟨h1, h2⟩ := h
    refine ⟨by omega, fun x hx => ?_⟩
    rw [hl] at hx
    rcases List.mem_cons.1 hx with rfl | hx
    · exact hc
    · exact h2 x (by rw [hd]; exact hx)
  | cons y T =>
    obtain ⟨t, q⟩ := y
    obtain ⟨h1, h2, h3, h4, h5⟩ := h
    refine ⟨by omega, h2, fun x hx => ?_, h4, h5⟩
    rw [hl, show q - p = (q - (p + 1)) + 1 by omega, List.take_succ_cons] at hx
    rcases List.mem_cons.1 hx with rfl | hx
    · exact hc
    · exact h3 x (by rw [hd]; exact hx)
theorem lexGo_stand (s : List UInt8) (p : Nat) (l : List UInt8) (hp : s.drop p = l) : ∀ T, p ≤ s.length → lexGo p 0 l = .ok T → Stand s p T := by
  refine lexGo_ind (fun p l => s.drop p = l → ∀ T, p ≤ s.length → lexGo p 0 l = .ok T → Stand s p T) ?_ ?_ ?_ ?_ l.length p l (Nat.le_refl _) hp
  · intro p hp T hle h
    obtain rfl : [] = T := LR.ok.inj h
    exact ⟨hle, fun c hc => by rw [hp] at hc; cases hc⟩
  · intro p c r hc ih hp T hle h
    rw [lexGo_blank hc] at h
    have hd : s.drop (p + 1) = r := by rw [← List.drop_drop, hp]; rfl
    have hlen := congrArg List.length hp
    rw [List.length_drop, List.length_cons] at hlen
    exact (ih hd T (by omega) h).blank hp hc
  · intro p c r e hc h hp T hle hT
    rw [lexGo_err hc _ h] at hT; cases hT
  · intro p c r t n hc h ih hp T hle hT
    rw [lexGo_tok hc _ h] at hT
    obtain ⟨U, hU, rfl⟩ := LR.add_ok hT
    obtain ⟨h1, h2, h3, _, _⟩ := oneV_tok h
    have hlen := congrArg List.length hp
    rw [List.length_drop] at hlen
    have hn : (tokText t).length = n := by rw [← h1, List.length_take]; omega
    have hd : s.drop (p + n) = (c :: r).drop n := by rw [← List.drop_drop, hp]
    refine ⟨Nat.le_refl _, by omega, fun x hx => ?_, ?_, ?_⟩
    · rw [Nat.sub_self, List.take_zero] at hx; cases hx
    · rw [hn, hp]; exact h1
    · rw [hn]; exact ih hd U (by omega) hU
theorem lexGo_bad (p : Nat) (l : List UInt8) : ∀ e q, lexGo p 0 l = .bad e q → p ≤ q ∧ q < p + l.length ∧ (e = 2 ∨ e = 20) := by
  refine lexGo_ind (fun p l => ∀ e q, lexGo p 0 l = .bad e q → p ≤ q ∧ q < p + l.length ∧ (e = 2 ∨ e = 20)) ?_ ?_ ?_ ?_ l.length p l (Nat.le_refl _)
  · intro p e q h; cases h
  · intro p c r hc ih e q h
    rw [lexGo_blank hc] at h
    obtain ⟨h1, h2, h3⟩ := ih e q h
    exact ⟨by omega, by rw [List.length_cons]; omega, h3⟩
  · intro p c r e hc h e' q hq
    rw [lexGo_err hc _ h] at hq
    obtain ⟨rfl, rfl⟩ := LR.bad.inj hq
    refine ⟨Nat.le_refl _, by rw [List.length_cons]; omega, ?_⟩
    rw [oneV_cons] at h
    split at h
    · cases h
    · split at h
      · cases h
      · split at h
        · unfold tagTok at h
          split at h
          · cases h
          · exact .inr (OneR.err.inj h).symm
        · split at h
          · unfold intTok at h
            split at h
            · cases h
            · rename_i h0
              have h := OneR.err.inj h
              rcases readV_err (l := nameOf (c :: r)) with h5 | h5 | h5
              · exact absurd h5 h0
              · rw [h5] at h; exact .inl h.symm
              · rw [h5] at h; exact .inr h.symm
          · split at h
            · unfold strTok at h
              split at h
              · cases h
              · exact .inr (OneR.err.inj h).symm
            · unfold signTok at h
              split at h
              · cases h
              · exact .inr (OneR.err.inj h).symm
  · intro p c r t n hc h ih e q hq
    rw [lexGo_tok hc _ h] at hq
    have h1 := ih e q (LR.add_bad hq)
    obtain ⟨_, h2, h3, _⟩ := oneV_tok h
    rw [List.length_drop] at h1
    omega
end Go.Proofs.YtigbapkdpaahjaaDoor
