/-
  Plain facts: which tree a row of tokens is, by the grammar of expressions and patterns, and where it is wrong first: as a machine that asks of the next token alone.
  Plain facts: what a text's beginning says, up to a token; a text in brackets; what is parsed of a text, and where it is wrong first.
  How trees lie in memory, and a parser's tokens; what stays when more is laid.
  The walks of slices.Contains at texts, isOne, operation.
  The walks of the parser's smallest steps: refuse, sees, read, accept, need, name.
  Boxes of structs: their cells, and a whole struct stored into one; the parser and what was there stand.
-/
import Derived.Test.YtecpldnjpapalaaDoorGLexA
import Derived.Test.YtecpldnjpapalaaDoorGLexB
import Derived.Deep.RegionWith
namespace Go.Proofs.YtecpldnjpapalaaDoor
section
open Go.RowKit
/-- A token and its place. -/
abbrev Tok := TK × Nat
structure Hd where
  kind : Int
  pos : Int
  name : List UInt8
  n : Int
  s : List UInt8
  labels : List (List UInt8)
/-- An expression, or a pattern. -/
inductive Nd where
  | mk (h : Hd) (args : List Nd) (arms : List (Nd × Nd))
def Nd.hd : Nd → Hd | .mk h _ _ => h
def Nd.args : Nd → List Nd | .mk _ l _ => l
def Nd.arms : Nd → List (Nd × Nd) | .mk _ _ l => l
inductive PR where
  | ok (x : Nd) (rest : List Tok)
  | bad (rest : List Tok)
  | out
def sLet : List UInt8 := [108, 101, 116]
def sRec : List UInt8 := [114, 101, 99]
def sIn : List UInt8 := [105, 110]
def sFun : List UInt8 := [102, 117, 110]
def sMatch : List UInt8 := [109, 97, 116, 99, 104]
def sWith : List UInt8 := [119, 105, 116, 104]
def sEnd : List UInt8 := [101, 110, 100]
def sIf : List UInt8 := [105, 102]
def sThen : List UInt8 := [116, 104, 101, 110]
def sElse : List UInt8 := [101, 108, 115, 101]
def sTrue : List UInt8 := [116, 114, 117, 101]
def sFalse : List UInt8 := [102, 97, 108, 115, 101]
def sRaise : List UInt8 := [114, 97, 105, 115, 101]
def sTry : List UInt8 := [116, 114, 121]
def sNot : List UInt8 := [110, 111, 116]
def sRef : List UInt8 := [114, 101, 102]
def sArray : List UInt8 := [97, 114, 114, 97, 121]
def sGet : List UInt8 := [103, 101, 116]
def sSet : List UInt8 := [115, 101, 116]
def sLen : List UInt8 := [108, 101, 110]
def sSize : List UInt8 := [115, 105, 122, 101]
def sByte : List UInt8 := [98, 121, 116, 101]
def sCat : List UInt8 := [99, 97, 116]
def sGetc : List UInt8 := [103, 101, 116, 99]
def sPutc : List UInt8 := [112, 117, 116, 99]
def sArrow : List UInt8 := [45, 62]
def sAssign : List UInt8 := [58, 61]
def sAnd : List UInt8 := [38, 38]
def sOr : List UInt8 := [124, 124]
def sOpen : List UInt8 := [40]
def sShut : List UInt8 := [41]
def sCurl : List UInt8 := [123]
def sUncurl : List UInt8 := [125]
def sEq : List UInt8 := [61]
def sSemi : List UInt8 := [59]
def sComma : List UInt8 := [44]
def sDot : List UInt8 := [46]
def sBar : List UInt8 := [124]
def sPlus : List UInt8 := [43]
def sMinus : List UInt8 := [45]
def sTimes : List UInt8 := [42]
def sOver : List UInt8 := [47]
def sRem : List UInt8 := [37]
def sLess : List UInt8 := [60]
def sBang : List UInt8 := [33]
/-- Is a token one of these words and signs? -/
def isOne (l : List (List UInt8)) (t : Tok) : Bool := (decide (t.1.kind = 7) || decide (t.1.kind = 6)) && l.contains t.1.text
def isKind (k : Int) (t : Tok) : Bool := decide (t.1.kind = k)
/-- The number of an operation. -/
def opOf (x : List UInt8) : Int :=
  if x = sAssign then 12 else if x = sEq then 7 else if x = sLess then 8 else if x = sPlus then 1 else if x = sMinus then 2 else if x = sTimes then 3 else if x = sOver then 4 else if x = sRem then 5 else if x = sNot then 9 else if x = sBang then 11 else if x = sRef then 10 else if x = sLen then 16 else if x = sSize then 17 else if x = sGetc then 20 else if x = sPutc then 21 else if x = sArray then 13 else if x = sGet then 14 else if x = sByte then 18 else if x = sCat then 19 else if x = sSet then 15 else 0
def nodeN (k : Int) (t : Tok) (x : List UInt8) (n : Int) (l : List Nd) : Nd := .mk ⟨k, t.2, x, n, [], []⟩ l []
def node (k : Int) (t : Tok) (l : List Nd) : Nd := nodeN k t [] (if k = 19 then opOf t.1.text else 0) l
def named (k : Int) (t : Tok) (x : List UInt8) (l : List Nd) : Nd := nodeN k t x (if k = 19 then opOf t.1.text else 0) l
def bag (ls : List (List UInt8)) (l : List Nd) (arms : List (Nd × Nd)) : Nd := .mk ⟨0, 0, [], 0, [], ls⟩ l arms
def isTruth (t : Tok) : Bool := isOne [sTrue] t || isOne [sFalse] t
/-- Does a token say something by itself? -/
def isLeaf (t : Tok) : Bool := isKind 1 t || isKind 2 t || isKind 4 t || isKind 5 t || isTruth t
def leafE (t : Tok) : Nd :=
  if t.1.kind = 1 then .mk ⟨1, t.2, t.1.text, 0, [], []⟩ [] [] else if t.1.kind = 2 then .mk ⟨6, t.2, t.1.text, 0, [], []⟩ [] [] else if t.1.kind = 4 then .mk ⟨2, t.2, [], t.1.n, [], []⟩ [] [] else if t.1.kind = 5 then .mk ⟨3, t.2, [], 0, t.1.text, []⟩ [] [] else .mk ⟨4, t.2, [], if isOne [sTrue] t = true then 1 else 0, [], []⟩ [] []
def leafP (t : Tok) : Nd :=
  if t.1.kind = 1 then (if t.1.text = [95] then .mk ⟨1, t.2, [], 0, [], []⟩ [] [] else .mk ⟨2, t.2, t.1.text, 0, [], []⟩ [] []) else if t.1.kind = 2 then .mk ⟨7, t.2, t.1.text, 0, [], []⟩ [] [] else if t.1.kind = 4 then .mk ⟨3, t.2, [], t.1.n, [], []⟩ [] [] else if t.1.kind = 5 then .mk ⟨4, t.2, [], 0, t.1.text, []⟩ [] [] else .mk ⟨5, t.2, [], if isOne [sTrue] t = true then 1 else 0, [], []⟩ [] []
def begins (t : Tok) : Bool := isLeaf t || isOne [sOpen, sCurl, sBang] t
/-- The signs of a level. -/
def signsOf : Nat → List (List UInt8)
  | 0 => [sOr]
  | 1 => [sAnd]
  | 2 => [sEq, sLess]
  | 3 => [sPlus, sMinus]
  | _ => [sTimes, sOver, sRem]
def word1 : List (List UInt8) := [sRef, sLen, sSize, sGetc, sPutc]
def word2 : List (List UInt8) := [sArray, sGet, sByte, sCat]
def word3 : List (List UInt8) := [sSet]
/-- What is being read. -/
inductive Md where
  | text | seq | item | fn | asg
  | letb (t : Tok) | cases (k : Int) (t : Tok) | choice (t : Tok)
  | arms (l : List (Nd × Nd))
  | level (n : Nat) | lvl (n : Nat) (left : Nd)
  | unary | app | apps (e : Nd) | posts (n : Nat) (l : List Nd)
  | post | dots (e : Nd) | atom | braces (t : Tok)
  | fields (b : Bool) | field (b : Bool) (ls : List (List UInt8)) (l : List Nd)
  | pat | patom
/-- How it goes on: by the next token, and by what is read in between. -/
inductive PM where
  | ret (x : Nd)
  | fail
  | call (m : Md) (k : Nd → PM)
  | acc (p : Tok → Bool) (yes : Tok → PM) (no : PM)
  | look (p : Tok → Bool) (yes no : PM)
  | look2 (p q : Tok → Bool) (yes no : PM)
def second (q : Tok → Bool) : List Tok → Bool
  | u :: _ => q u
  | [] => false
def exec (rec : Md → List Tok → PR) : PM → List Tok → PR
  | .ret x, T => .ok x T
  | .fail, T => .bad T
  | .call m k, T => match rec m T with
    | .ok x R => exec rec (k x) R
    | .bad R => .bad R
    | .out => .out
  | .acc p yes no, T => match T with
    | [] => .out
    | t :: R => if p t = true then exec rec (yes t) R else exec rec no (t :: R)
  | .look p yes no, T => match T with
    | [] => .out
    | t :: R => if p t = true then exec rec yes (t :: R) else exec rec no (t :: R)
  | .look2 p q yes no, T => match T with
    | [] => .out
    | t :: R => if (p t && second q R) = true then exec rec yes (t :: R) else exec rec no (t :: R)
def need (l : List (List UInt8)) (k : Tok → PM) : PM := .acc (isOne l) k .fail
def name (k : List UInt8 → PM) : PM := .acc (isKind 1) (fun t => k t.1.text) .fail
def bound (k : Int) (m : Md) (t : Tok) : PM := name fun x => need [sEq] fun _ => .call m fun a => need [sIn] fun _ => .call .seq fun b => .ret (named k t x [a, b])
def recordB (t : Tok) : PM := .call (.fields true) fun r => .ret (.mk ⟨12, t.2, [], 0, [], r.hd.labels⟩ r.args [])
def withB (t : Tok) : PM := .call .seq fun o => need [sWith] fun _ => name fun x => need [sEq] fun _ => .call .seq fun v => need [sUncurl] fun _ => .ret (named 13 t x [o, v])
def step : Md → PM
  | .text => .call .seq fun e => .look (isKind 0) (.ret e) .fail
  | .seq => .call .item fun a => .acc (isOne [sSemi]) (fun t => .call .seq fun b => .ret (node 20 t [a, b])) (.ret a)
  | .item => .look (isOne [sFun]) (.call .fn .ret) (.acc (isOne [sLet, sMatch, sTry, sIf, sRaise]) (fun t =>
      if t.1.text = sLet then .call (.letb t) .ret
      else if t.1.text = sMatch then .call (.cases 16 t) .ret
      else if t.1.text = sTry then .call (.cases 17 t) .ret
      else if t.1.text = sIf then .call (.choice t) .ret
      else .call .post fun e => .ret (node 18 t [e])) (.call .asg .ret))
  | .fn => need [sFun] fun t => name fun x => need [sArrow] fun _ => .call .seq fun e => .ret (named 7 t x [e])
  | .letb t => .acc (isOne [sRec]) (fun _ => bound 10 .fn t) (bound 9 .seq t)
  | .cases k t => .call .seq fun e => need [sWith] fun _ => .call (.arms []) fun r => .ret (.mk ⟨k, t.2, [], 0, [], []⟩ [e] r.arms)
  | .arms l => .call .pat fun p => need [sArrow] fun _ => .call .seq fun b => need [sBar, sEnd] fun t => if t.1.text = sEnd then .ret (bag [] [] (l ++ [(p, b)])) else .call (.arms (l ++ [(p, b)])) .ret
  | .choice t => .call .seq fun a => need [sThen] fun _ => .call .item fun b => need [sElse] fun _ => .call .item fun c => .ret (node 11 t [a, b, c])
  | .asg => .call (.level 0) fun l => .acc (isOne [sAssign]) (fun t => .call .item fun r => .ret (node 19 t [l, r])) (.ret l)
  | .level n => if 5 ≤ n then .call .unary .ret else .call (.level (n + 1)) fun l => .call (.lvl n l) .ret
  | .lvl n left => .acc (isOne (signsOf n)) (fun t =>
      if n = 2 then .call (.level (n + 1)) fun r => .ret (node 19 t [left, r])
      else if n < 2 then .call (.level n) fun r => .ret (node (if n = 0 then 22 else 21) t [left, r])
      else .call (.level (n + 1)) fun r => .call (.lvl n (node 19 t [left, r])) .ret) (.ret left)
  | .unary => .acc (isOne [sMinus, sNot]) (fun t => .call .unary fun e => .ret (nodeN 19 t [] (if t.1.text = sMinus then 6 else opOf t.1.text) [e])) (.call .app .ret)
  | .app => .acc (isKind 3) (fun t => .call .post fun e => .ret (named 15 t t.1.text [e])) (
      .acc (isOne word1) (fun t => .call (.posts 1 []) fun r => .ret (node 19 t r.args)) (
      .acc (isOne word2) (fun t => .call (.posts 2 []) fun r => .ret (node 19 t r.args)) (
      .acc (isOne word3) (fun t => .call (.posts 3 []) fun r => .ret (node 19 t r.args)) (
      .call .post fun e => .call (.apps e) .ret))))
  | .apps e => .look begins (.call .post fun b => .call (.apps (.mk ⟨8, e.hd.pos, [], 0, [], []⟩ [e, b] [])) .ret) (.ret e)
  | .posts n l => if n = 0 then .ret (bag [] l []) else .call .post fun x => .call (.posts (n - 1) (l ++ [x])) .ret
  | .post => .acc (isOne [sBang]) (fun t => .call .post fun e => .ret (node 19 t [e])) (.call .atom fun e => .call (.dots e) .ret)
  | .dots e => .acc (isOne [sDot]) (fun t => name fun x => .call (.dots (named 14 t x [e])) .ret) (.ret e)
  | .atom => .acc isLeaf (fun t => .ret (leafE t)) (need [sOpen, sCurl] fun t =>
      if t.1.text = sCurl then .call (.braces t) .ret
      else .acc (isOne [sShut]) (fun _ => .ret (node 5 t [])) (.call .seq fun e => need [sShut] fun _ => .ret e))
  | .braces t => .look (isOne [sUncurl]) (recordB t) (.look2 (isKind 1) (isOne [sEq]) (recordB t) (withB t))
  | .fields b => .acc (isOne [sUncurl]) (fun _ => .ret (bag [] [] [])) (.call (.field b [] []) .ret)
  | .field b ls l => name fun x => need [sEq] fun _ => .call (if b = true then .seq else .pat) fun v => need [sComma, sUncurl] fun t =>
      if t.1.text = sUncurl then .ret (bag (ls ++ [x]) (l ++ [v]) []) else .call (.field b (ls ++ [x]) (l ++ [v])) .ret
  | .pat => .acc (isKind 3) (fun t => .call .patom fun p => .ret (nodeN 8 t t.1.text 0 [p])) (.call .patom .ret)
  | .patom => .acc isLeaf (fun t => .ret (leafP t)) (need [sMinus, sOpen, sCurl] fun t =>
      if t.1.text = sMinus then .acc (isKind 4) (fun u => .ret (nodeN 3 t [] (-u.1.n) [])) .fail
      else if t.1.text = sCurl then .call (.fields false) fun r => .ret (.mk ⟨9, t.2, [], 0, [], r.hd.labels⟩ r.args [])
      else .acc (isOne [sShut]) (fun _ => .ret (nodeN 6 t [] 0 [])) (.call .pat fun p => need [sShut] fun _ => .ret p))
def run : Nat → Md → List Tok → PR
  | 0, _, _ => .out
  | f + 1, m, T => exec (run f) (step m) T
theorem run_succ (f : Nat) (m : Md) (T : List Tok) : run (f + 1) m T = exec (run f) (step m) T := rfl
/-- No token is the end. -/
def NoEnd (X : List Tok) : Prop := ∀ t ∈ X, t.1.kind ≠ 0
theorem NoEnd.nil : NoEnd [] := fun _ h => by cases h
theorem NoEnd.cons {t : Tok} {X : List Tok} (h : t.1.kind ≠ 0) (hx : NoEnd X) : NoEnd (t :: X) := fun u hu => by
  rcases List.mem_cons.1 hu with rfl | hu
  · exact h
  · exact hx u hu
theorem NoEnd.head {t : Tok} {X : List Tok} (h : NoEnd (t :: X)) : t.1.kind ≠ 0 := h t (by simp)
theorem NoEnd.tail {t : Tok} {X : List Tok} (h : NoEnd (t :: X)) : NoEnd X := fun u hu => h u (by simp [hu])
theorem NoEnd.append {X Y : List Tok} (h : NoEnd X) (h' : NoEnd Y) : NoEnd (X ++ Y) := fun u hu => by
  rcases List.mem_append.1 hu with hu | hu
  · exact h u hu
  · exact h' u hu
theorem NoEnd.right {X Y : List Tok} (h : NoEnd (X ++ Y)) : NoEnd Y := fun u hu => h u (by simp [hu])
/-- A test that no end meets. -/
def Ends (p : Tok → Bool) : Prop := ∀ t, p t = true → t.1.kind ≠ 0
theorem ends_one (l : List (List UInt8)) : Ends (isOne l) := fun t h => by
  unfold isOne at h
  simp only [Bool.and_eq_true, Bool.or_eq_true, decide_eq_true_eq] at h
  omega
theorem ends_kind {k : Int} (hk : k ≠ 0) : Ends (isKind k) := fun t h => by
  unfold isKind at h
  rw [of_decide_eq_true h]; exact hk
theorem ends_leaf : Ends isLeaf := fun t h => by
  unfold isLeaf at h
  simp only [Bool.or_eq_true] at h
  rcases h with (((h | h) | h) | h) | h
  · exact ends_kind (by decide) t h
  · exact ends_kind (by decide) t h
  · exact ends_kind (by decide) t h
  · exact ends_kind (by decide) t h
  · unfold isTruth at h
    rcases (Bool.or_eq_true _ _).mp h with h | h
    · exact ends_one _ t h
    · exact ends_one _ t h
theorem ends_begins : Ends begins := fun t h => by
  unfold begins at h
  rcases (Bool.or_eq_true _ _).mp h with h | h
  · exact ends_leaf t h
  · exact ends_one _ t h
/-- Does what is read always take a token? -/
def Md.eats : Md → Bool
  | .lvl _ _ | .apps _ | .posts _ _ | .dots _ => false
  | _ => true
/-- What is taken is never the end; what must take something does. (c: something has been taken.) -/
def PM.fine : Bool → Bool → PM → Prop
  | e, c, .ret _ => e = true → c = true
  | _, _, .fail => True
  | e, c, .call m k => ∀ x, PM.fine e (c || m.eats) (k x)
  | e, c, .acc p yes no => Ends p ∧ (∀ t, PM.fine e true (yes t)) ∧ PM.fine e c no
  | e, c, .look _ yes no => PM.fine e c yes ∧ PM.fine e c no
  | e, c, .look2 p q yes no => Ends p ∧ Ends q ∧ PM.fine e c yes ∧ PM.fine e c no
theorem fine_ite {e c : Bool} {p : Prop} [Decidable p] {a b : PM} (ha : a.fine e c) (hb : b.fine e c) : (if p then a else b).fine e c := by
  split
  · exact ha
  · exact hb
theorem step_fine (m : Md) : (step m).fine m.eats false := by
  cases m <;> simp only [step, need, name, bound, recordB, withB, Md.eats]
  all_goals repeat' first | exact trivial | exact fun _ => rfl | exact fun h => h | exact ends_one _ | exact ends_leaf | exact ends_kind (by decide) | exact ends_begins | apply fine_ite | constructor | intro _
/-- What has been taken, and where it is wrong. -/
def Took (e : Bool) (T : List Tok) : PR → Prop
  | .ok _ R => ∃ P, T = P ++ R ∧ NoEnd P ∧ (e = true → P ≠ [])
  | .bad R => ∃ P, T = P ++ R ∧ NoEnd P
  | .out => True
theorem Took.cons {e : Bool} {t : Tok} {T : List Tok} {r : PR} (ht : t.1.kind ≠ 0) (e' : Bool) (h : Took e T r) : Took e' (t :: T) r := by
  cases r with
  | ok x R =>
    obtain ⟨P, h1, h2, _⟩ := h
    exact ⟨t :: P, by rw [h1]; rfl, h2.cons ht, fun _ h => by cases h⟩
  | bad R =>
    obtain ⟨P, h1, h2⟩ := h
    exact ⟨t :: P, by rw [h1]; rfl, h2.cons ht⟩
  | out => trivial
theorem took_exec {rec : Md → List Tok → PR} (hr : ∀ m T, Took m.eats T (rec m T)) : ∀ (pm : PM) (e c : Bool) (T : List Tok), pm.fine e c → Took (e && !c) T (exec rec pm T)
  | .ret x, e, c, T, h => ⟨[], rfl, NoEnd.nil, fun h' => by
      simp only [PM.fine] at h
      simp only [Bool.and_eq_true, Bool.not_eq_true'] at h'
      rw [h h'.1] at h'; cases h'.2⟩
  | .fail, _, _, T, _ => ⟨[], rfl, NoEnd.nil⟩
  | .call m k, e, c, T, h => by
    have h1 := hr m T
    rw [exec]
    cases hm : rec m T with
    | ok x R =>
      rw [hm] at h1
      obtain ⟨P, hT, hP, hne⟩ := h1
      have h2 := took_exec hr (k x) e (c || m.eats) R (h x)
      show Took _ T (exec rec (k x) R)
      rw [hT]
      cases hx : exec rec (k x) R with
      | ok y S =>
        rw [hx] at h2
        obtain ⟨Q, hQ, hq, hqn⟩ := h2
        refine ⟨P ++ Q, by rw [hQ, List.append_assoc], hP.append hq, fun h' hn => ?_⟩
        rw [List.append_eq_nil_iff] at hn
        cases he : m.eats with
        | true => exact hne he hn.1
        | false =>
          rw [he, Bool.or_false] at hqn
          exact hqn h' hn.2
      | bad S =>
        rw [hx] at h2
        obtain ⟨Q, hQ, hq⟩ := h2
        exact ⟨P ++ Q, by rw [hQ, List.append_assoc], hP.append hq⟩
      | out => trivial
    | bad R => rw [hm] at h1; exact h1
    | out => trivial
  | .acc p yes no, e, c, [], h => trivial
  | .acc p yes no, e, c, t :: R, h => by
    rw [exec]
    split
    · rename_i hp
      exact (took_exec hr (yes t) e true R (h.2.1 t)).cons (h.1 t hp) _
    · exact took_exec hr no e c (t :: R) h.2.2
  | .look p yes no, e, c, [], h => trivial
  | .look p yes no, e, c, t :: R, h => by
    rw [exec]
    split
    · exact took_exec hr yes e c (t :: R) h.1
    · exact took_exec hr no e c (t :: R) h.2
  | .look2 p q yes no, e, c, [], h => trivial
  | .look2 p q yes no, e, c, t :: R, h => by
    rw [exec]
    split
    · exact took_exec hr yes e c (t :: R) h.2.2.1
    · exact took_exec hr no e c (t :: R) h.2.2.2
theorem run_took : ∀ (f : Nat) (m : Md) (T : List Tok), Took m.eats T (run f m T)
  | 0, _, _ => trivial
  | f + 1, m, T => by
    have h := took_exec (run_took f) (step m) m.eats false T (step_fine m)
    rwa [Bool.not_false, Bool.and_true] at h
/-- More fuel changes nothing. -/
theorem exec_more {rec rec' : Md → List Tok → PR} (hr : ∀ m T, rec m T ≠ .out → rec' m T = rec m T) : ∀ (pm : PM) (T : List Tok), exec rec pm T ≠ .out → exec rec' pm T = exec rec pm T
  | .ret _, _, _ => rfl
  | .fail, _, _ => rfl
  | .call m k, T, h => by
    rw [exec] at h ⊢
    rw [exec]
    cases hm : rec m T with
    | ok x R =>
      rw [hr m T (by rw [hm]; exact fun h => by cases h), hm]
      rw [hm] at h
      exact exec_more hr (k x) R h
    | bad R => rw [hr m T (by rw [hm]; exact fun h => by cases h), hm]
    | out => rw [hm] at h; exact absurd rfl h
  | .acc p yes no, [], h => absurd rfl h
  | .acc p yes no, t :: R, h => by
    rw [exec] at h ⊢
    rw [exec]
    split
    · rename_i hp
      rw [if_pos hp] at h
      exact exec_more hr (yes t) R h
    · rename_i hp
      rw [if_neg hp] at h
      exact exec_more hr no (t :: R) h
  | .look p yes no, [], h => absurd rfl h
  | .look p yes no, t :: R, h => by
    rw [exec] at h ⊢
    rw [exec]
    split
    · rename_i hp
      rw [if_pos hp] at h
      exact exec_more hr yes (t :: R) h
    · rename_i hp
      rw [if_neg hp] at h
      exact exec_more hr no (t :: R) h
  | .look2 p q yes no, [], h => absurd rfl h
  | .look2 p q yes no, t :: R, h => by
    rw [exec] at h ⊢
    rw [exec]
    split
    · rename_i hp
      rw [if_pos hp] at h
      exact exec_more hr yes (t :: R) h
    · rename_i hp
      rw [if_neg hp] at h
      exact exec_more hr no (t :: R) h
theorem run_more_one : ∀ (f : Nat) (m : Md) (T : List Tok), run f m T ≠ .out → run (f + 1) m T = run f m T
  | 0, _, _, h => absurd rfl h
  | f + 1, m, T, h => exec_more (rec := run f) (rec' := run (f + 1)) (fun m T h => run_more_one f m T h) (step m) T h
theorem run_more {f g : Nat} (hg : f ≤ g) (m : Md) (T : List Tok) (h : run f m T ≠ .out) : run g m T = run f m T := by
  induction hg with
  | refl => rfl
  | step _ ih => rw [run_more_one _ m T (by rw [ih]; exact h), ih]
/-- So it is read, with fuel enough. -/
def Reads (m : Md) (T : List Tok) (r : PR) : Prop := r ≠ .out ∧ ∃ f, run f m T = r
theorem Reads.one {m : Md} {T : List Tok} {r s : PR} (h : Reads m T r) (h' : Reads m T s) : r = s := by
  obtain ⟨h0, f, rfl⟩ := h
  obtain ⟨h1, g, rfl⟩ := h'
  rcases Nat.le_total f g with hl | hl
  · exact (run_more hl m T h0).symm
  · exact run_more hl m T h1
/-- A measure of how much is to come before a token is taken. -/
def Md.rank : Md → Nat
  | .text => 15 | .seq => 14 | .item => 13 | .fn => 0 | .asg => 12
  | .letb _ => 0 | .cases _ _ => 15 | .choice _ => 15
  | .arms _ => 15
  | .level n => 6 + (5 - n) | .lvl _ _ => 0
  | .unary => 5 | .app => 4 | .apps _ => 3 | .posts _ _ => 4
  | .post => 2 | .dots _ => 0 | .atom => 1 | .braces _ => 15
  | .fields _ => 1 | .field _ _ _ => 0
  | .pat => 2 | .patom => 1
def PM.paid (r : Nat) : Bool → PM → Prop
  | _, .ret _ => True
  | _, .fail => True
  | c, .call m k => (c = false → m.rank < r) ∧ ∀ x, PM.paid r (c || m.eats) (k x)
  | c, .acc _ yes no => (∀ t, PM.paid r true (yes t)) ∧ PM.paid r c no
  | c, .look _ yes no => PM.paid r c yes ∧ PM.paid r c no
  | c, .look2 _ _ yes no => PM.paid r c yes ∧ PM.paid r c no
theorem paid_ite {r : Nat} {c : Bool} {p : Prop} [Decidable p] {a b : PM} (ha : p → a.paid r c) (hb : ¬ p → b.paid r c) : (if p then a else b).paid r c := by
  split
  · exact ha ‹_›
  · exact hb ‹_›
theorem step_paid (m : Md) : (step m).paid m.rank false := by
  cases m <;> simp only [step, need, name, bound, recordB, withB, Md.rank]
  all_goals repeat' first | exact trivial | exact (fun h : true = false => Bool.noConfusion h) | exact (fun _ : false = false => by decide) | (apply paid_ite <;> intro _) | constructor | intro _
  all_goals (simp only [Md.rank]; omega)
theorem rank_lt (m : Md) : m.rank < 16 := by
  cases m <;> simp only [Md.rank] <;> omega
/-- Tokens, and the end. -/
def Row (T : List Tok) : Prop := ∃ X e, T = X ++ [e] ∧ NoEnd X ∧ e.1.kind = 0
theorem Row.right : ∀ {P R : List Tok}, Row (P ++ R) → NoEnd P → Row R
  | [], R, h, _ => h
  | t :: P, R, ⟨X, e, h, hx, he⟩, hp => by
    cases X with
    | nil =>
      have h1 : t = e := by simpa using congrArg List.head? h
      rw [← h1] at he
      exact absurd he hp.head
    | cons u X =>
      exact Row.right (P := P) ⟨X, e, by simpa using congrArg List.tail h, hx.tail, he⟩ hp.tail
theorem exec_runs {rec : Md → List Tok → PR} {n r : Nat} (hr : ∀ m T, Took m.eats T (rec m T)) (hm : ∀ m T, Row T → 16 * T.length + m.rank < 16 * n + r → rec m T ≠ .out) :
    ∀ (pm : PM) (e c : Bool) (T : List Tok), pm.fine e c → pm.paid r c → Row T → T.length ≤ n → (c = true → T.length < n) → exec rec pm T ≠ .out
  | .ret _, _, _, _, _, _, _, _, _ => fun h => by cases h
  | .fail, _, _, _, _, _, _, _, _ => fun h => by cases h
  | .call m k, e, c, T, h, hp, ht, hl, hc => by
    have h1 := hr m T
    have h2 := hm m T ht (by
      have := rank_lt m
      cases c with
      | true => have := hc rfl; omega
      | false => have := hp.1 rfl; omega)
    rw [exec]
    cases hx : rec m T with
    | ok x R =>
      rw [hx] at h1
      obtain ⟨P, hT, hP, hne⟩ := h1
      subst hT
      rw [List.length_append] at hl hc
      refine exec_runs hr hm (k x) e (c || m.eats) R (h x) (hp.2 x) (ht.right hP) (by omega) (fun h' => ?_)
      rcases (Bool.or_eq_true _ _).mp h' with h' | h'
      · have := hc h'; omega
      · have := List.length_pos_iff.2 (hne h'); omega
    | bad R => exact fun h => by cases h
    | out => exact absurd hx h2
  | .acc p yes no, e, c, [], h, hp, ht, hl, hc => by
    obtain ⟨X, u, h, _⟩ := ht
    simp at h
  | .acc p yes no, e, c, t :: R, h, hp, ht, hl, hc => by
    rw [exec]
    split
    · rename_i hpt
      have hk := h.1 t hpt
      rw [List.length_cons] at hl
      exact exec_runs hr hm (yes t) e true R (h.2.1 t) (hp.1 t) (ht.right (P := [t]) (NoEnd.nil.cons hk)) (by omega) (fun _ => by omega)
    · exact exec_runs hr hm no e c (t :: R) h.2.2 hp.2 ht hl hc
  | .look p yes no, e, c, [], h, hp, ht, hl, hc => by
    obtain ⟨X, u, h, _⟩ := ht
    simp at h
  | .look p yes no, e, c, t :: R, h, hp, ht, hl, hc => by
    rw [exec]
    split
    · exact exec_runs hr hm yes e c (t :: R) h.1 hp.1 ht hl hc
    · exact exec_runs hr hm no e c (t :: R) h.2 hp.2 ht hl hc
  | .look2 p q yes no, e, c, [], h, hp, ht, hl, hc => by
    obtain ⟨X, u, h, _⟩ := ht
    simp at h
  | .look2 p q yes no, e, c, t :: R, h, hp, ht, hl, hc => by
    rw [exec]
    split
    · exact exec_runs hr hm yes e c (t :: R) h.2.2.1 hp.1 ht hl hc
    · exact exec_runs hr hm no e c (t :: R) h.2.2.2 hp.2 ht hl hc
/-- So much fuel is enough. -/
theorem run_enough : ∀ (f : Nat) (m : Md) (T : List Tok), Row T → 16 * T.length + m.rank < f → run f m T ≠ .out
  | 0, _, _, _, h => absurd h (by omega)
  | f + 1, m, T, ht, h => by
    rw [run_succ]
    exact exec_runs (n := T.length) (r := m.rank) (run_took f) (fun m' T' ht' hl => run_enough f m' T' ht' (by omega)) (step m) m.eats false T (step_fine m) (step_paid m) ht (Nat.le_refl _) (fun h => by cases h)
/-- On a name these take it. -/
def Md.chain : Md → Bool
  | .seq | .item | .asg | .level _ | .unary | .app | .post | .atom => true
  | _ => false
theorem chain_eats {m : Md} (h : m.chain = true) : m.eats = true := by cases m <;> first | rfl | cases h
def PM.firm : PM → Prop
  | .ret _ => True
  | .fail => False
  | .call m _ => m.chain = true
  | .acc p _ no => (∀ t, isKind 1 t = true → p t = true) ∨ no.firm
  | .look p yes no => ((∀ t, isKind 1 t = true → p t = false) ∨ yes.firm) ∧ no.firm
  | .look2 _ _ _ _ => False
theorem kind1_one {t : Tok} (h : isKind 1 t = true) (l : List (List UInt8)) : isOne l t = false := by
  have h := of_decide_eq_true h
  unfold isOne
  rw [h]; rfl
theorem kind1_leaf {t : Tok} (h : isKind 1 t = true) : isLeaf t = true := by unfold isLeaf; rw [h]; rfl
theorem step_firm (m : Md) (h : m.chain = true) : (step m).firm := by
  cases m <;> first | (cases h; done) | simp only [step, need]
  case level n => split <;> rfl
  case atom => exact .inl fun t h => kind1_leaf h
  case item => exact ⟨.inl fun t h => kind1_one h _, .inr rfl⟩
  case unary => exact .inr rfl
  case app => exact .inr (.inr (.inr (.inr rfl)))
  case post => exact .inr rfl
  all_goals rfl
theorem exec_firm {rec : Md → List Tok → PR} (hr : ∀ m T, Took m.eats T (rec m T)) {t : Tok} {R : List Tok} (ht : isKind 1 t = true) (hm : ∀ m, m.chain = true → rec m (t :: R) ≠ .bad (t :: R)) :
    ∀ (pm : PM) (e : Bool), pm.fine e false → pm.firm → exec rec pm (t :: R) ≠ .bad (t :: R)
  | .ret _, _, _, _ => fun h => by cases h
  | .call m k, e, h, hf => by
    have h1 := hr m (t :: R)
    have h2 := hm m hf
    rw [exec]
    cases hx : rec m (t :: R) with
    | ok x S =>
      rw [hx] at h1
      obtain ⟨P, hT, hP, hne⟩ := h1
      have h3 := took_exec hr (k x) e (false || m.eats) S (h x)
      have h4 := List.length_pos_iff.2 (hne (chain_eats hf))
      have h5 := congrArg List.length hT
      rw [List.length_append, List.length_cons] at h5
      intro h6
      have h6 : exec rec (k x) S = .bad (t :: R) := h6
      rw [h6] at h3
      obtain ⟨Q, hQ, _⟩ := h3
      have h7 := congrArg List.length hQ
      rw [List.length_append, List.length_cons] at h7
      omega
    | bad S => rw [hx] at h2; exact h2
    | out => exact fun h => by cases h
  | .acc p yes no, e, h, hf => by
    rw [exec]
    split
    · have h3 := took_exec hr (yes t) e true R (h.2.1 t)
      intro h6
      rw [h6] at h3
      obtain ⟨Q, hQ, _⟩ := h3
      have h7 := congrArg List.length hQ
      rw [List.length_append, List.length_cons] at h7
      omega
    · rename_i hp
      rcases hf with hf | hf
      · exact absurd (hf t ht) hp
      · exact exec_firm hr ht hm no e h.2.2 hf
  | .look p yes no, e, h, hf => by
    rw [exec]
    split
    · rename_i hp
      rcases hf.1 with hf | hf
      · rw [hf t ht] at hp; cases hp
      · exact exec_firm hr ht hm yes e h.1 hf
    · exact exec_firm hr ht hm no e h.2 hf.2
theorem run_firm : ∀ (f : Nat) (m : Md) (t : Tok) (R : List Tok), isKind 1 t = true → m.chain = true → run f m (t :: R) ≠ .bad (t :: R)
  | 0, _, _, _, _, _ => fun h => by cases h
  | f + 1, m, t, R, ht, hm => exec_firm (run_took f) ht (fun m' hm' => run_firm f m' t R ht hm') (step m) m.eats (step_fine m) (step_firm m hm)
/-- Two tokens ahead: what they decide. -/
def PM.two : PM → Prop
  | .ret _ | .fail => True
  | .call _ k => ∀ x, PM.two (k x)
  | .acc _ yes no => (∀ t, PM.two (yes t)) ∧ PM.two no
  | .look _ yes no => PM.two yes ∧ PM.two no
  | .look2 p _ yes no => (∀ t, p t = true → isKind 1 t = true) ∧ PM.two yes ∧ PM.two no ∧ ∃ m k, no = .call m k ∧ m.chain = true
theorem two_ite {p : Prop} [Decidable p] {a b : PM} (ha : a.two) (hb : b.two) : (if p then a else b).two := by
  split
  · exact ha
  · exact hb
theorem step_two (m : Md) : (step m).two := by
  cases m <;> simp only [step, need, name, bound, recordB, withB]
  all_goals repeat' first | exact trivial | exact fun _ h => h | exact rfl | apply two_ite | constructor | intro _
/-- What was decided before the end was come to is so whatever stands there. -/
def Settled (e : Tok) (Y : List Tok) (r r' : PR) : Prop := match r with
  | .ok x R => ∀ Q, Q ≠ [] → R = Q ++ [e] → r' = .ok x (Q ++ Y)
  | .bad R => ∀ Q, Q ≠ [] → R = Q ++ [e] → r' = .bad (Q ++ Y)
  | .out => True
theorem settled_void {e : Tok} (Y : List Tok) (b : Bool) {r r' : PR} (h : Took b [e] r) : Settled e Y r r' := by
  have hx : ∀ (P Q : List Tok), [e] = P ++ (Q ++ [e]) → Q ≠ [] → False := fun P Q hR hQ => by
    have := congrArg List.length hR
    simp only [List.length_append, List.length_cons, List.length_nil] at this
    have := List.length_pos_iff.2 hQ
    omega
  cases r with
  | ok x R =>
    obtain ⟨P, h1, _⟩ := h
    intro Q hQ hR
    rw [hR] at h1
    exact absurd hQ (fun h => (hx P Q h1 h))
  | bad R =>
    obtain ⟨P, h1, _⟩ := h
    intro Q hQ hR
    rw [hR] at h1
    exact absurd hQ (fun h => (hx P Q h1 h))
  | out => trivial
theorem took_row {X P R : List Tok} {e : Tok} (he : e.1.kind = 0) (h : X ++ [e] = P ++ R) (hP : NoEnd P) : ∃ Q, R = Q ++ [e] ∧ X = P ++ Q := by
  induction P generalizing X with
  | nil => exact ⟨X, h.symm, rfl⟩
  | cons u P ih =>
    cases X with
    | nil =>
      have h1 : e = u := by simpa using congrArg List.head? h
      rw [h1] at he
      exact absurd he hP.head
    | cons v X =>
      have h1 : v = u := by simpa using congrArg List.head? h
      obtain ⟨Q, h2, h3⟩ := ih (X := X) (by simpa using congrArg List.tail h) hP.tail
      exact ⟨Q, h2, by rw [h1, h3]; rfl⟩
theorem exec_settled {rec : Md → List Tok → PR} {e : Tok} {Y : List Tok} (he : e.1.kind = 0) (hr : ∀ m T, Took m.eats T (rec m T)) (hf : ∀ m t R, isKind 1 t = true → m.chain = true → rec m (t :: R) ≠ .bad (t :: R))
    (hm : ∀ m X, Settled e Y (rec m (X ++ [e])) (rec m (X ++ Y))) :
    ∀ (pm : PM) (b c : Bool) (X : List Tok), pm.fine b c → pm.two → Settled e Y (exec rec pm (X ++ [e])) (exec rec pm (X ++ Y))
  | pm, b, c, [], h, _ => settled_void Y _ (took_exec hr pm b c [e] h)
  | .ret x, _, _, t :: X, _, _ => fun Q _ hR => by rw [List.append_cancel_right hR]; rfl
  | .fail, _, _, t :: X, _, _ => fun Q _ hR => by rw [List.append_cancel_right hR]; rfl
  | .call m k, b, c, t :: X, h, h2 => by
    have h1 := hm m (t :: X)
    have h0 := hr m ((t :: X) ++ [e])
    rw [exec, exec]
    cases hx : rec m ((t :: X) ++ [e]) with
    | ok x R =>
      rw [hx] at h1 h0
      obtain ⟨P, hT, hP, _⟩ := h0
      obtain ⟨Q, rfl, hQ⟩ := took_row he hT hP
      by_cases hQn : Q = []
      · subst hQn
        exact settled_void Y _ (took_exec hr (k x) b _ [e] (h x))
      · rw [h1 Q hQn rfl]
        exact exec_settled he hr hf hm (k x) b (c || m.eats) Q (h x) (h2 x)
    | bad R =>
      rw [hx] at h1
      intro Q hQ hR
      rw [h1 Q hQ hR]
    | out => trivial
  | .acc p yes no, b, c, t :: X, h, h2 => by
    rw [List.cons_append, List.cons_append, exec, exec]
    by_cases hp : p t = true
    · rw [if_pos hp, if_pos hp]
      exact exec_settled he hr hf hm (yes t) b true X (h.2.1 t) (h2.1 t)
    · rw [if_neg hp, if_neg hp]
      exact exec_settled he hr hf hm no b c (t :: X) h.2.2 h2.2
  | .look p yes no, b, c, t :: X, h, h2 => by
    rw [List.cons_append, List.cons_append, exec, exec]
    by_cases hp : p t = true
    · rw [if_pos hp, if_pos hp]
      exact exec_settled he hr hf hm yes b c (t :: X) h.1 h2.1
    · rw [if_neg hp, if_neg hp]
      exact exec_settled he hr hf hm no b c (t :: X) h.2 h2.2
  | .look2 p q yes no, b, c, t :: X, h, h2 => by
    rw [List.cons_append, List.cons_append, exec, exec]
    by_cases hp : p t = true
    · cases X with
      | nil =>
        have hq : q e = false := by
          cases hq : q e with
          | false => rfl
          | true => exact absurd he (h.2.1 e hq)
        have hs : second q ([] ++ [e]) = false := hq
        rw [hs, Bool.and_false, if_neg (by decide)]
        obtain ⟨m, k, hno, hc⟩ := h2.2.2.2
        show Settled e Y (exec rec no [t, e]) _
        rw [hno]
        have h4 := hr m [t, e]
        have h5 := hf m t [e] (h2.1 t hp) hc
        rw [exec]
        cases hx : rec m [t, e] with
        | ok x R =>
          rw [hx] at h4
          obtain ⟨P, hT, hP, hne⟩ := h4
          obtain ⟨Q, rfl, hQ⟩ := took_row (X := [t]) he hT hP
          have h6 := List.length_pos_iff.2 (hne (chain_eats hc))
          have h7 := congrArg List.length hQ
          rw [List.length_append, List.length_cons, List.length_nil] at h7
          obtain rfl : Q = [] := List.eq_nil_of_length_eq_zero (by omega)
          have h8 := h.2.2.2
          rw [hno] at h8
          exact settled_void Y _ (took_exec hr (k x) b _ [e] (h8 x))
        | bad R =>
          rw [hx] at h4 h5
          obtain ⟨P, hT, hP⟩ := h4
          obtain ⟨Q, rfl, hQ⟩ := took_row (X := [t]) he hT hP
          intro Q' hQn hR
          obtain rfl := List.append_cancel_right hR
          cases P with
          | nil =>
            obtain rfl : [t] = Q := hQ
            exact absurd rfl h5
          | cons u P =>
            have h7 := congrArg List.length hQ
            rw [List.length_append, List.length_cons, List.length_cons, List.length_nil] at h7
            have := List.length_pos_iff.2 hQn
            omega
        | out => trivial
      | cons u X =>
        have hs : ∀ Z, second q ((u :: X) ++ Z) = q u := fun _ => rfl
        rw [hs, hs]
        by_cases hq : (p t && q u) = true
        · rw [if_pos hq, if_pos hq]
          exact exec_settled he hr hf hm yes b c (t :: u :: X) h.2.2.1 h2.2.1
        · rw [if_neg hq, if_neg hq]
          exact exec_settled he hr hf hm no b c (t :: u :: X) h.2.2.2 h2.2.2.1
    · have hp' : p t = false := by simpa using hp
      rw [hp', Bool.false_and, Bool.false_and, if_neg (by decide), if_neg (by decide)]
      exact exec_settled he hr hf hm no b c (t :: X) h.2.2.2 h2.2.2.1
theorem run_settled {e : Tok} (Y : List Tok) (he : e.1.kind = 0) : ∀ (f : Nat) (m : Md) (X : List Tok), Settled e Y (run f m (X ++ [e])) (run f m (X ++ Y))
  | 0, _, _ => trivial
  | f + 1, m, X => exec_settled he (run_took f) (run_firm f) (fun m X => run_settled Y he f m X) (step m) m.eats false X (step_fine m) (step_two m)
/-- A closing bracket. -/
def isShut (t : Tok) : Prop := isOne [sShut] t = true
/-- What a closing bracket decides is decided by the end alike, but where it is asked for. -/
def PM.shuts : PM → Prop
  | .ret _ | .fail => True
  | .call m k => m ≠ .text ∧ ∀ x, PM.shuts (k x)
  | .acc p yes no => ((∀ c, isShut c → p c = false) ∨ no = .fail ∨ ∃ m k, no = .call m k ∧ m.eats = true) ∧ (∀ t, PM.shuts (yes t)) ∧ PM.shuts no
  | .look p yes no => Ends p ∧ (∀ c, isShut c → p c = false) ∧ PM.shuts yes ∧ PM.shuts no
  | .look2 p q yes no => Ends p ∧ Ends q ∧ (∀ c, isShut c → p c = false ∧ q c = false) ∧ PM.shuts yes ∧ PM.shuts no
theorem shut_text {c : Tok} (h : isShut c) : c.1.text = sShut ∧ (c.1.kind = 7 ∨ c.1.kind = 6) := by
  unfold isShut isOne at h
  simp only [Bool.and_eq_true, Bool.or_eq_true, decide_eq_true_eq] at h
  exact ⟨by simpa using h.2, h.1⟩
theorem shut_one {l : List (List UInt8)} (hl : l.contains sShut = false) (c : Tok) (h : isShut c) : isOne l c = false := by
  unfold isOne
  rw [(shut_text h).1, hl, Bool.and_false]
theorem shut_kind {k : Int} (h7 : k ≠ 7) (h6 : k ≠ 6) (c : Tok) (h : isShut c) : isKind k c = false := by
  unfold isKind
  have := (shut_text h).2
  exact decide_eq_false (by omega)
theorem shut_leaf (c : Tok) (h : isShut c) : isLeaf c = false := by
  unfold isLeaf isTruth
  rw [shut_kind (by decide) (by decide) c h, shut_kind (by decide) (by decide) c h, shut_kind (by decide) (by decide) c h, shut_kind (by decide) (by decide) c h, shut_one (by decide) c h, shut_one (by decide) c h]
  rfl
theorem shut_begins (c : Tok) (h : isShut c) : begins c = false := by
  unfold begins
  rw [shut_leaf c h, shut_one (by decide) c h]; rfl
theorem signs_shut (n : Nat) : (signsOf n).contains sShut = false := by
  match n with
  | 0 => decide
  | 1 => decide
  | 2 => decide
  | 3 => decide
  | n + 4 => show ([sTimes, sOver, sRem] : List (List UInt8)).contains sShut = false; decide
theorem shuts_ite {p : Prop} [Decidable p] {a b : PM} (ha : a.shuts) (hb : b.shuts) : (if p then a else b).shuts := by
  split
  · exact ha
  · exact hb
theorem step_shuts (m : Md) (hm : m ≠ .text) : (step m).shuts := by
  cases m <;> simp only [step, need, name, bound, recordB, withB]
  case text => exact absurd rfl hm
  all_goals repeat' first | exact trivial | exact ends_one _ | exact ends_begins | exact ends_kind (by decide) | exact fun c h => ⟨shut_kind (by decide) (by decide) c h, shut_one (by decide) c h⟩ | exact shut_one (by decide) | exact shut_begins | exact .inl (shut_one (by decide)) | exact .inl (shut_one (signs_shut _)) | exact .inl shut_leaf | exact .inl (shut_kind (by decide) (by decide)) | exact .inr (.inl rfl) | exact .inr (.inr ⟨_, _, rfl, rfl⟩) | exact (fun h => Md.noConfusion h) | apply shuts_ite | constructor | intro _
  all_goals (rename_i h; split at h <;> exact Md.noConfusion h)
/-- What was read to its end is read so ahead of a closing bracket, too. -/
def Shuts (e c : Tok) (Z : List Tok) (r r' : PR) : Prop := ∀ x Q, r = .ok x (Q ++ [e]) → r' = .ok x (Q ++ c :: Z)
theorem never_ok {rec : Md → List Tok → PR} {e : Tok} (he : e.1.kind = 0) (hr : ∀ m T, Took m.eats T (rec m T)) {m : Md} (hm : m.eats = true) {x : Nd} {R : List Tok} (h : rec m [e] = .ok x R) : False := by
  have h1 := hr m [e]
  rw [h] at h1
  obtain ⟨P, hT, hP, hne⟩ := h1
  have h2 := List.length_pos_iff.2 (hne hm)
  obtain ⟨Q, _, hQ⟩ := took_row (X := []) he hT hP
  have h3 := congrArg List.length hQ
  rw [List.length_append, List.length_nil] at h3
  omega
theorem exec_shuts {rec : Md → List Tok → PR} {e c : Tok} {Z : List Tok} (he : e.1.kind = 0) (hc : isShut c) (hr : ∀ m T, Took m.eats T (rec m T))
    (hm : ∀ m X, m ≠ .text → Shuts e c Z (rec m (X ++ [e])) (rec m (X ++ c :: Z))) :
    ∀ (pm : PM) (a b : Bool) (X : List Tok), pm.fine a b → pm.shuts → Shuts e c Z (exec rec pm (X ++ [e])) (exec rec pm (X ++ c :: Z))
  | .ret x, _, _, X, _, _ => fun y Q h => by
    obtain ⟨h6, h7⟩ := PR.ok.inj h
    subst h6
    have h8 := List.append_cancel_right h7
    subst h8; rfl
  | .fail, _, _, _, _, _ => fun y Q h => by cases h
  | .call m k, a, b, X, h, h2 => by
    have h1 := hm m X h2.1
    have h0 := hr m (X ++ [e])
    rw [exec, exec]
    cases hx : rec m (X ++ [e]) with
    | ok x R =>
      rw [hx] at h1 h0
      obtain ⟨P, hT, hP, _⟩ := h0
      obtain ⟨Q, rfl, hQ⟩ := took_row he hT hP
      rw [h1 x Q rfl]
      exact exec_shuts he hc hr hm (k x) a _ Q (h x) (h2.2 x)
    | bad R => exact fun y Q h => by cases h
    | out => exact fun y Q h => by cases h
  | .acc p yes no, a, b, [], h, h2 => by
    have hpe : ¬ p e = true := fun hp => h.1 e hp he
    rw [List.nil_append, List.nil_append, exec, exec, if_neg hpe]
    rcases h2.1 with h3 | h3 | ⟨m, k, h3, h4⟩
    · rw [h3 c hc, if_neg (by decide)]
      exact exec_shuts he hc hr hm no a b [] h.2.2 h2.2.2
    · subst h3
      exact fun y Q h => by cases h
    · subst h3
      intro y Q h5
      rw [exec] at h5
      cases hx : rec m [e] with
      | ok x R => exact (never_ok he hr h4 hx).elim
      | bad R => rw [hx] at h5; cases h5
      | out => rw [hx] at h5; cases h5
  | .acc p yes no, a, b, t :: X, h, h2 => by
    rw [List.cons_append, List.cons_append, exec, exec]
    by_cases hp : p t = true
    · rw [if_pos hp, if_pos hp]
      exact exec_shuts he hc hr hm (yes t) a true X (h.2.1 t) (h2.2.1 t)
    · rw [if_neg hp, if_neg hp]
      exact exec_shuts he hc hr hm no a b (t :: X) h.2.2 h2.2.2
  | .look p yes no, a, b, [], h, h2 => by
    have hpe : ¬ p e = true := fun hp => h2.1 e hp he
    rw [List.nil_append, List.nil_append, exec, exec, if_neg hpe, h2.2.1 c hc, if_neg (by decide)]
    exact exec_shuts he hc hr hm no a b [] h.2 h2.2.2.2
  | .look p yes no, a, b, t :: X, h, h2 => by
    rw [List.cons_append, List.cons_append, exec, exec]
    by_cases hp : p t = true
    · rw [if_pos hp, if_pos hp]
      exact exec_shuts he hc hr hm yes a b (t :: X) h.1 h2.2.2.1
    · rw [if_neg hp, if_neg hp]
      exact exec_shuts he hc hr hm no a b (t :: X) h.2 h2.2.2.2
  | .look2 p q yes no, a, b, [], h, h2 => by
    have hpe : p e = false := by
      cases hp : p e with
      | false => rfl
      | true => exact absurd he (h2.1 e hp)
    rw [List.nil_append, List.nil_append, exec, exec, hpe, (h2.2.2.1 c hc).1, Bool.false_and, Bool.false_and, if_neg (by decide), if_neg (by decide)]
    exact exec_shuts he hc hr hm no a b [] h.2.2.2 h2.2.2.2.2
  | .look2 p q yes no, a, b, t :: X, h, h2 => by
    rw [List.cons_append, List.cons_append, exec, exec]
    have hs : second q (X ++ [e]) = second q (X ++ c :: Z) := by
      cases X with
      | nil =>
        show q e = q c
        rw [(h2.2.2.1 c hc).2]
        cases hq : q e with
        | false => rfl
        | true => exact absurd he (h2.2.1 e hq)
      | cons u X => rfl
    rw [hs]
    by_cases hp : (p t && second q (X ++ c :: Z)) = true
    · rw [if_pos hp, if_pos hp]
      exact exec_shuts he hc hr hm yes a b (t :: X) h.2.2.1 h2.2.2.2.1
    · rw [if_neg hp, if_neg hp]
      exact exec_shuts he hc hr hm no a b (t :: X) h.2.2.2 h2.2.2.2.2
theorem run_shuts {e c : Tok} (Z : List Tok) (he : e.1.kind = 0) (hc : isShut c) : ∀ (f : Nat) (m : Md) (X : List Tok), m ≠ .text → Shuts e c Z (run f m (X ++ [e])) (run f m (X ++ c :: Z))
  | 0, _, _, _ => fun x Q h => by cases h
  | f + 1, m, X, hm => exec_shuts he hc (run_took f) (fun m X hm => run_shuts Z he hc f m X hm) (step m) m.eats false X (step_fine m) (step_shuts m hm)
/-- A token, its place aside. -/
def er (t : Tok) : Tok := (t.1, 0)
def Hd.er (h : Hd) : Hd := ⟨h.kind, 0, h.name, h.n, h.s, h.labels⟩
mutual
/-- A tree, its places aside. -/
def Nd.er : Nd → Nd
  | .mk h l a => .mk h.er (ersN l) (ersA a)
def ersN : List Nd → List Nd
  | [] => []
  | x :: r => x.er :: ersN r
def ersA : List (Nd × Nd) → List (Nd × Nd)
  | [] => []
  | (p, b) :: r => (p.er, b.er) :: ersA r
end
theorem ersN_append (l r : List Nd) : ersN (l ++ r) = ersN l ++ ersN r := by
  induction l with
  | nil => rfl
  | cons x l ih => show x.er :: ersN (l ++ r) = _; rw [ih]; rfl
theorem ersA_append (l r : List (Nd × Nd)) : ersA (l ++ r) = ersA l ++ ersA r := by
  induction l with
  | nil => rfl
  | cons x l ih => show (x.1.er, x.2.er) :: ersA (l ++ r) = _; rw [ih]; rfl
def Md.er : Md → Md
  | .letb t => .letb (Go.Proofs.YtecpldnjpapalaaDoor.er t)
  | .cases k t => .cases k (Go.Proofs.YtecpldnjpapalaaDoor.er t)
  | .choice t => .choice (Go.Proofs.YtecpldnjpapalaaDoor.er t)
  | .arms l => .arms (ersA l)
  | .lvl n e => .lvl n e.er
  | .apps e => .apps e.er
  | .posts n l => .posts n (ersN l)
  | .dots e => .dots e.er
  | .braces t => .braces (Go.Proofs.YtecpldnjpapalaaDoor.er t)
  | .field b ls l => .field b ls (ersN l)
  | m => m
def PR.er : PR → PR
  | .ok x R => .ok x.er (R.map Go.Proofs.YtecpldnjpapalaaDoor.er)
  | .bad R => .bad (R.map Go.Proofs.YtecpldnjpapalaaDoor.er)
  | .out => .out
/-- Two ways to go on that part in places alone. -/
inductive PM.Alike : PM → PM → Prop
  | ret (x : Nd) : PM.Alike (.ret x) (.ret x.er)
  | fail : PM.Alike .fail .fail
  | call (m : Md) (k k' : Nd → PM) : (∀ x, PM.Alike (k x) (k' x.er)) → PM.Alike (.call m k) (.call m.er k')
  | acc (p : Tok → Bool) (yes yes' : Tok → PM) (no no' : PM) : (∀ t, p (Go.Proofs.YtecpldnjpapalaaDoor.er t) = p t) → (∀ t, PM.Alike (yes t) (yes' (Go.Proofs.YtecpldnjpapalaaDoor.er t))) → PM.Alike no no' → PM.Alike (.acc p yes no) (.acc p yes' no')
  | look (p : Tok → Bool) (yes yes' no no' : PM) : (∀ t, p (Go.Proofs.YtecpldnjpapalaaDoor.er t) = p t) → PM.Alike yes yes' → PM.Alike no no' → PM.Alike (.look p yes no) (.look p yes' no')
  | look2 (p q : Tok → Bool) (yes yes' no no' : PM) : (∀ t, p (Go.Proofs.YtecpldnjpapalaaDoor.er t) = p t) → (∀ t, q (Go.Proofs.YtecpldnjpapalaaDoor.er t) = q t) → PM.Alike yes yes' → PM.Alike no no' → PM.Alike (.look2 p q yes no) (.look2 p q yes' no')
theorem exec_alike {rec : Md → List Tok → PR} (hm : ∀ m T, rec m.er (T.map er) = (rec m T).er) {pm pm' : PM} (h : pm.Alike pm') : ∀ T, exec rec pm' (T.map er) = (exec rec pm T).er := by
  induction h with
  | ret x => exact fun T => rfl
  | fail => exact fun T => rfl
  | call m k k' _ ih =>
    intro T
    rw [exec, exec, hm m T]
    cases hx : rec m T with
    | ok x R => exact ih x R
    | bad R => rfl
    | out => rfl
  | acc p yes yes' no no' hp _ _ ih1 ih2 =>
    intro T
    cases T with
    | nil => rfl
    | cons t R =>
      rw [List.map_cons, exec, exec, hp t]
      split
      · exact ih1 t R
      · exact ih2 (t :: R)
  | look p yes yes' no no' hp _ _ ih1 ih2 =>
    intro T
    cases T with
    | nil => rfl
    | cons t R =>
      rw [List.map_cons, exec, exec, hp t]
      split
      · exact ih1 (t :: R)
      · exact ih2 (t :: R)
  | look2 p q yes yes' no no' hp hq _ _ ih1 ih2 =>
    intro T
    cases T with
    | nil => rfl
    | cons t R =>
      have hs : second q (R.map er) = second q R := by
        cases R with
        | nil => rfl
        | cons u R => exact hq u
      rw [List.map_cons, exec, exec, hp t, hs]
      split
      · exact ih1 (t :: R)
      · exact ih2 (t :: R)
theorem alike_ite {p q : Prop} [Decidable p] [Decidable q] {a b a' b' : PM} (h : p ↔ q) (ha : a.Alike a') (hb : b.Alike b') : (if p then a else b).Alike (if q then a' else b') := by
  by_cases hp : p
  · rw [if_pos hp, if_pos (h.1 hp)]; exact ha
  · rw [if_neg hp, if_neg (fun hq => hp (h.2 hq))]; exact hb
theorem Nd.er_hd (x : Nd) : x.er.hd = x.hd.er := by cases x; rfl
theorem Nd.er_args (x : Nd) : x.er.args = ersN x.args := by cases x; rfl
theorem Nd.er_arms (x : Nd) : x.er.arms = ersA x.arms := by cases x; rfl
theorem alike_ret {x y : Nd} (h : x.er = y) : (PM.ret x).Alike (.ret y) := h ▸ .ret x
theorem alike_call {m m' : Md} {k k' : Nd → PM} (h : m.er = m') (hk : ∀ x, (k x).Alike (k' x.er)) : (PM.call m k).Alike (.call m' k') := h ▸ .call m k k' hk
theorem leafE_er (t : Tok) : (leafE t).er = leafE (er t) := by
  unfold leafE
  rw [show isOne [sTrue] (er t) = isOne [sTrue] t from rfl, show (er t).1 = t.1 from rfl]
  repeat' split
  all_goals rfl
theorem leafP_er (t : Tok) : (leafP t).er = leafP (er t) := by
  unfold leafP
  rw [show isOne [sTrue] (er t) = isOne [sTrue] t from rfl, show (er t).1 = t.1 from rfl]
  repeat' split
  all_goals rfl
theorem step_alike (m : Md) : (step m).Alike (step m.er) := by
  cases m <;> simp only [step, need, name, bound, recordB, withB, Md.er]
  all_goals repeat' first | exact .ret _ | exact .fail | exact alike_ret rfl | exact alike_ret (leafE_er _) | exact alike_ret (leafP_er _) | (refine alike_call rfl fun _ => ?_) | (refine .acc _ _ _ _ _ (fun _ => rfl) (fun _ => ?_) ?_) | (refine .look _ _ _ _ _ (fun _ => rfl) ?_ ?_) | (refine .look2 _ _ _ _ _ _ (fun _ => rfl) (fun _ => rfl) ?_ ?_) | (refine alike_ite Iff.rfl ?_ ?_)
  all_goals first
    | (refine alike_ret ?_; simp [Nd.er, ersN, ersA, ersA_append, Nd.er_hd, Nd.er_args, Nd.er_arms, Hd.er, bag, node, nodeN, er]; done)
    | (refine alike_call ?_ fun _ => .ret _; simp [Md.er, Nd.er, ersN, ersA, ersA_append, ersN_append, Nd.er_hd, Hd.er]; done)
    | skip
  case field.refine_1.refine_1 =>
    refine alike_call (by split <;> rfl) fun v => .acc _ _ _ _ _ (fun _ => rfl) (fun t => alike_ite Iff.rfl (alike_ret ?_) (alike_call ?_ fun _ => .ret _)) .fail
    · simp [Nd.er, ersN, ersA, ersN_append, Hd.er, bag, er]
    · simp [Md.er, ersN, ersN_append, er]
/-- Places aside, the same is read whatever the places. -/
theorem run_alike : ∀ (f : Nat) (m : Md) (T : List Tok), run f m.er (T.map er) = (run f m T).er
  | 0, _, _ => rfl
  | f + 1, m, T => exec_alike (fun m T => run_alike f m T) (step_alike m) T
end
section
open Go.RowKit
theorem nameOf_cut : ∀ (l : List UInt8) (k : Nat), (nameOf l).length ≤ k → nameOf (l.take k) = nameOf l
  | [], k, _ => by rw [List.take_nil]
  | c :: r, 0, h => by
    have : nameOf (c :: r) = [] := List.eq_nil_of_length_eq_zero (by omega)
    rw [this]; rfl
  | c :: r, k + 1, h => by
    rw [List.take_succ_cons]
    by_cases hc : isBody c = true
    · rw [nameOf_cons hc] at h ⊢
      rw [nameOf_cons hc, nameOf_cut r k (by simpa using h)]
    · rw [nameOf_not (by simpa using hc), nameOf_not (by simpa using hc)]
theorem find_sub {α : Type} {p q : α → Bool} : ∀ {l : List α} {s : α}, l.find? p = some s → (∀ x, q x = true → p x = true) → q s = true → l.find? q = some s
  | [], _, h, _, _ => by cases h
  | x :: l, s, h, hs, hq => by
    rw [List.find?_cons] at h ⊢
    cases hp : p x with
    | true =>
      rw [hp] at h
      obtain rfl := Option.some.inj h
      rw [hq]
    | false =>
      rw [hp] at h
      have : q x = false := by
        cases hx : q x with
        | false => rfl
        | true => rw [hs x hx] at hp; cases hp
      rw [this]
      exact find_sub h hs hq
theorem prefix_cut {s l : List UInt8} (k : Nat) (h : s.isPrefixOf (l.take k) = true) : s.isPrefixOf l = true := by
  obtain ⟨t, ht⟩ := List.isPrefixOf_iff_prefix.1 h
  exact List.isPrefixOf_iff_prefix.2 ⟨t ++ l.drop k, by rw [← List.append_assoc, ht, List.take_append_drop]⟩
theorem prefix_keep {s l : List UInt8} (k : Nat) (h : s.isPrefixOf l = true) (hk : s.length ≤ k) : s.isPrefixOf (l.take k) = true := by
  obtain ⟨t, rfl⟩ := List.isPrefixOf_iff_prefix.1 h
  rw [List.take_append, List.take_of_length_le hk]
  exact List.isPrefixOf_iff_prefix.2 ⟨_, rfl⟩
theorem qsize_cut {l : List UInt8} (k : Nat) (h : qsize l ≠ 0) (hk : qsize l ≤ k) : qsize (l.take k) = qsize l := by
  have h1 := qsize_take h
  have h2 : l.take k = l.take (qsize l) ++ (l.drop (qsize l)).take (k - qsize l) := by
    rw [← List.take_add]; congr 1; omega
  have hne : l.take (qsize l) ≠ [] := fun e => by
    rw [e] at h1; exact h h1.symm
  rw [h2, qsize_more _ hne (by rw [h1]; exact h), h1]
/-- A token is read alike if the text is cut behind it. -/
theorem oneV_cut {l : List UInt8} {t : TK} {n : Nat} (h : oneV l = .tok t n) (k : Nat) (hk : n ≤ k) : oneV (l.take k) = .tok t n := by
  have ht := oneV_tok h
  cases l with
  | nil => cases h
  | cons c r =>
    obtain ⟨k, rfl⟩ : ∃ j, k = j + 1 := ⟨k - 1, by omega⟩
    have hn := nameOf_cut (c :: r) (k + 1)
    rw [List.take_succ_cons] at hn ⊢
    rw [oneV_cons] at h ⊢
    split at h
    · rename_i h1
      obtain ⟨rfl, rfl⟩ := OneR.tok.inj h
      rw [if_pos h1, hn hk]
    · rename_i h1
      rw [if_neg h1]
      split at h
      · rename_i h2
        obtain ⟨rfl, rfl⟩ := OneR.tok.inj h
        rw [if_pos h2, hn hk]
      · rename_i h2
        rw [if_neg h2]
        split at h
        · rename_i h3
          rw [if_pos h3]
          unfold tagTok at h ⊢
          split at h
          · rename_i h4
            obtain ⟨rfl, rfl⟩ := OneR.tok.inj h
            have h5 := nameOf_cut r k (by omega)
            have h6 : (r.take k).head?.any isUp = true := by
              cases r with
              | nil => cases h4
              | cons d r =>
                have h7 : isBody d = true := body_up h4
                rw [nameOf_cons h7, List.length_cons] at hk
                obtain ⟨k, rfl⟩ : ∃ j, k = j + 1 := ⟨k - 1, by omega⟩
                exact h4
            rw [if_pos h6, h5]
          · cases h
        · rename_i h3
          rw [if_neg h3]
          split at h
          · rename_i h4
            rw [if_pos h4]
            unfold intTok at h ⊢
            split at h
            · rename_i h5
              obtain ⟨rfl, rfl⟩ := OneR.tok.inj h
              rw [hn hk, if_pos h5]
            · cases h
          · rename_i h4
            rw [if_neg h4]
            split at h
            · rename_i h5
              subst h5
              rw [if_pos rfl]
              have h8 := oneV_quote (l := 34 :: r) (t := t) (n := n) h rfl
              unfold strTok at h ⊢
              split at h
              · rename_i h6
                obtain ⟨rfl, rfl⟩ := OneR.tok.inj h
                have h9 := qsize_cut (l := 34 :: r) (k + 1) h8 hk
                have h10 : (34 :: r.take k).take (qsize (34 :: r)) = (34 :: r).take (qsize (34 :: r)) := by
                  have : (34 :: r.take k) = (34 :: r).take (k + 1) := by rw [List.take_succ_cons]
                  rw [this, List.take_take]; congr 1; omega
                rw [List.take_succ_cons] at h9
                rw [h9, h10, if_pos h6]
              · cases h
            · rename_i h5
              rw [if_neg h5]
              unfold signTok at h ⊢
              split at h
              · rename_i s hs
                obtain ⟨rfl, rfl⟩ := OneR.tok.inj h
                have h9 : signL.find? (·.isPrefixOf (c :: r.take k)) = some s := by
                  rw [← List.take_succ_cons]
                  exact find_sub hs (fun x hx => prefix_cut _ hx) (prefix_keep _ (by simpa using List.find?_some hs) hk)
                rw [h9]
              · cases h
/-- The tokens ahead of one are what the text ahead of it has. -/
theorem lexGo_cut (p : Nat) (l : List UInt8) : ∀ (A B : List Tok) (t : Tok), lexGo p 0 l = .ok (A ++ t :: B) → p ≤ t.2 ∧ lexGo p 0 (l.take (t.2 - p)) = .ok A := by
  refine lexGo_ind (fun p l => ∀ (A B : List Tok) (t : Tok), lexGo p 0 l = .ok (A ++ t :: B) → p ≤ t.2 ∧ lexGo p 0 (l.take (t.2 - p)) = .ok A) ?_ ?_ ?_ ?_ l.length p l (Nat.le_refl _)
  · intro p A B t h
    have := LR.ok.inj h
    simp at this
  · intro p c r hc ih A B t h
    rw [lexGo_blank hc] at h
    obtain ⟨h1, h2⟩ := ih A B t h
    refine ⟨by omega, ?_⟩
    rw [show t.2 - p = (t.2 - (p + 1)) + 1 by omega, List.take_succ_cons, lexGo_blank hc]
    exact h2
  · intro p c r e hc h A B t hT
    rw [lexGo_err hc _ h] at hT; cases hT
  · intro p c r u n hc h ih A B t hT
    rw [lexGo_tok hc _ h] at hT
    obtain ⟨U, hU, hx⟩ := LR.add_ok hT
    obtain ⟨_, h2, h3, _⟩ := oneV_tok h
    cases A with
    | nil =>
      have hx : t = (u, p) := by simpa using congrArg List.head? hx
      subst hx
      refine ⟨Nat.le_refl _, ?_⟩
      show lexGo p 0 ((c :: r).take (p - p)) = _
      rw [Nat.sub_self, List.take_zero, lexGo_nil]
    | cons v A =>
      have hv : v = (u, p) := by simpa using congrArg List.head? hx
      subst hv
      have hx : A ++ t :: B = U := by simpa using congrArg List.tail hx
      subst hx
      obtain ⟨h4, h5⟩ := ih A B t hU
      have hk : n ≤ t.2 - p := by omega
      have h6 := oneV_cut h (t.2 - p) hk
      refine ⟨by omega, ?_⟩
      rw [show t.2 - p = (t.2 - p - 1) + 1 by omega, List.take_succ_cons] at h6 ⊢
      rw [lexGo_tok hc _ h6, ← List.take_succ_cons, List.drop_take, show t.2 - p - 1 + 1 - n = t.2 - (p + n) by omega, h5]
      rfl
/-- A round bracket ahead of a text, and behind it. -/
theorem lexGo_open (p : Nat) (l : List UInt8) : lexGo p 0 (40 :: l) = (lexGo (p + 1) 0 l).add [(⟨7, sOpen, 0⟩, p)] := by
  have h : oneV (40 :: l) = .tok ⟨7, sOpen, 0⟩ 1 := by
    rw [oneV_cons, if_neg (by decide), if_neg (by decide), if_neg (by decide), if_neg (by decide), if_neg (by decide)]
    unfold signTok
    have : signL.find? (·.isPrefixOf (40 :: l)) = some [40] := by
      unfold signL
      simp [List.isPrefixOf, List.find?]
    rw [this]; rfl
  rw [lexGo_tok (by decide) _ h]; rfl
theorem list_end {α : Type} (l : List α) : l = [] ∨ ∃ m x, l = m ++ [x] := by
  cases h : l.reverse with
  | nil => exact .inl (by simpa using h)
  | cons x m => exact .inr ⟨m.reverse, x, by simpa using congrArg List.reverse h⟩
theorem end_one {X A : List Tok} {e t : Tok} (h : X ++ [e] = A ++ [t]) : X = A ∧ e = t := by
  obtain ⟨h1, h2⟩ := List.append_inj' h rfl
  exact ⟨h1, by simpa using h2⟩
theorem end_more {X A B : List Tok} {e t u : Tok} (h : X ++ [e] = A ++ t :: (B ++ [u])) : X = A ++ t :: B ∧ e = u := end_one (by rw [h]; simp)
/-- What is parsed of tokens. -/
def tokV (T : List Tok) : PR := run (16 * T.length + 16) .text T
mutual
/-- The parts of a tree: where, and how deep. -/
def Nd.parts (d : Nat) : Nd → List (Int × Nat)
  | .mk h l a => (h.pos, d) :: (partsN (d + 1) l ++ partsA (d + 1) a)
def partsN (d : Nat) : List Nd → List (Int × Nat)
  | [] => []
  | x :: r => x.parts d ++ partsN d r
def partsA (d : Nat) : List (Nd × Nd) → List (Int × Nat)
  | [] => []
  | (p, b) :: r => p.parts d ++ (b.parts d ++ partsA d r)
end
/-- What is parsed of a text: a tree, or what is wrong and where. -/
inductive PV where
  | ok (x : Nd)
  | bad (e : Int) (q : Nat)
def deepV (most : Int) (x : Nd) : Option Int := ((x.parts 1).find? fun t => decide (most < (t.2 : Int))).map (·.1)
def treeV (x : Nd) : PV := if 4096 < (x.parts 1).length then .bad 3 0 else match deepV 200 x with
  | some q => .bad 22 q.toNat
  | none => .ok x
def ParseV (l : List UInt8) : PV := match LexV l with
  | .bad e q => .bad e q
  | .ok T => match tokV T with
    | .ok x _ => treeV x
    | .bad R => .bad 21 ((R.head?.map (·.2)).getD 0)
    | .out => .bad 0 0
/-- The end behind a text's tokens. -/
abbrev endT (n : Nat) : Tok := (⟨0, [], 0⟩, n)
theorem toks_row {l : List UInt8} {X : List Tok} (h : lexGo 0 0 l = .ok X) : NoEnd X := fun t ht => by
  have := (lexGo_good 0 l X h t ht).2
  omega
theorem row_of {X : List Tok} (h : NoEnd X) (n : Nat) : Row (X ++ [endT n]) := ⟨X, _, rfl, h, rfl⟩
theorem tokV_runs {T : List Tok} (h : Row T) : tokV T ≠ .out := run_enough _ _ _ h (by show 16 * T.length + 15 < _; omega)
theorem tokV_of {T : List Tok} {r : PR} {f : Nat} (h : Row T) (hr : run f .text T = r) (hn : r ≠ .out) : tokV T = r :=
  Reads.one ⟨tokV_runs h, _, rfl⟩ ⟨hn, f, hr⟩
theorem treeV_form (x : Nd) : treeV x = .ok x ∨ treeV x = .bad 3 0 ∨ ∃ q, treeV x = .bad 22 q := by
  unfold treeV
  split
  · exact .inr (.inl rfl)
  · split
    · exact .inr (.inr ⟨_, rfl⟩)
    · exact .inl rfl
/-- The ways of parsing a text. -/
theorem parseV_form (l : List UInt8) : (∃ e q, LexV l = .bad e q ∧ ParseV l = .bad e q) ∨ ∃ X, lexGo 0 0 l = .ok X ∧ l.length ≤ 4096 ∧ LexV l = .ok (X ++ [endT l.length]) ∧
    ((∃ x, tokV (X ++ [endT l.length]) = .ok x [endT l.length] ∧ ParseV l = treeV x) ∨ ∃ A t B, X ++ [endT l.length] = A ++ t :: B ∧ tokV (X ++ [endT l.length]) = .bad (t :: B) ∧ ParseV l = .bad 21 t.2) := by
  rcases lexV_form l with ⟨X, h1, h2, h3⟩ | ⟨h1, h2⟩ | ⟨e, q, h1, h2, h3, h4, h5⟩
  · refine .inr ⟨X, h2, h3, h1, ?_⟩
    have hx := toks_row h2
    have hrow := row_of hx l.length
    have hn := tokV_runs hrow
    have ht := run_took (16 * (X ++ [endT l.length]).length + 16) .text (X ++ [endT l.length])
    have hp : ParseV l = match tokV (X ++ [endT l.length]) with
      | .ok x _ => treeV x
      | .bad R => .bad 21 ((R.head?.map (·.2)).getD 0)
      | .out => .bad 0 0 := by unfold ParseV; rw [h1]
    rw [hp]
    change Took true _ (tokV (X ++ [endT l.length])) at ht
    have hstep : tokV (X ++ [endT l.length]) = exec (run (16 * (X ++ [endT l.length]).length + 15)) (step .text) (X ++ [endT l.length]) := rfl
    cases hv : tokV (X ++ [endT l.length]) with
    | ok x R =>
      refine .inl ⟨x, ?_, rfl⟩
      rw [hv] at ht hstep
      obtain ⟨P, hP, hPn, _⟩ := ht
      obtain ⟨Q, rfl, hQ⟩ := took_row rfl hP hPn
      cases Q with
      | nil => rfl
      | cons u Q =>
        exfalso
        have hu : u.1.kind ≠ 0 := hx u (by rw [hQ]; simp)
        simp only [step, exec] at hstep
        split at hstep
        · rename_i y S hy
          cases S with
          | nil => cases hstep
          | cons v S =>
            simp only at hstep
            split at hstep
            · rename_i hk
              obtain ⟨_, h8⟩ := PR.ok.inj hstep
              obtain rfl : u = v := by simpa using congrArg List.head? h8
              unfold isKind at hk
              exact hu (of_decide_eq_true hk)
            · cases hstep
        · cases hstep
        · cases hstep
    | bad R =>
      rw [hv] at ht
      obtain ⟨P, hP, hPn⟩ := ht
      obtain ⟨Q, rfl, hQ⟩ := took_row rfl hP hPn
      cases Q with
      | nil => exact .inr ⟨X, endT l.length, [], rfl, rfl, rfl⟩
      | cons u Q => exact .inr ⟨P, u, Q ++ [endT l.length], by rw [hQ]; simp, rfl, rfl⟩
    | out => exact absurd hv hn
  · exact .inl ⟨4, 0, h1, by unfold ParseV; rw [h1]⟩
  · exact .inl ⟨e, q, h1, by unfold ParseV; rw [h1]⟩
/-- What stands ahead of the place where a text is wrong is right as far as it goes. -/
theorem parse_cut {l : List UInt8} {q : Nat} (h : ParseV l = .bad 21 q) : q ≤ l.length ∧ ((∃ x, ParseV (l.take q) = treeV x) ∨ ParseV (l.take q) = .bad 21 q) := by
  rcases parseV_form l with ⟨e, q', h1, h2⟩ | ⟨X, hX, hl, hV, ⟨x, _, h2⟩ | ⟨A, t, B, hT, hv, h2⟩⟩
  · exfalso
    rw [h2] at h
    obtain ⟨rfl, rfl⟩ := PV.bad.inj h
    rcases lexV_form l with ⟨X, h3, _⟩ | ⟨h3, _⟩ | ⟨e, q, h3, _, _, h4, _⟩
    · rw [h1] at h3; cases h3
    · rw [h1] at h3
      have := (LR.bad.inj h3).1
      omega
    · rw [h1] at h3
      have := (LR.bad.inj h3).1
      omega
  · exfalso
    rw [h2] at h
    rcases treeV_form x with h3 | h3 | ⟨_, h3⟩
    · rw [h3] at h; cases h
    · rw [h3] at h
      have := (PV.bad.inj h).1
      omega
    · rw [h3] at h
      have := (PV.bad.inj h).1
      omega
  · rw [h2] at h
    obtain ⟨_, rfl⟩ := PV.bad.inj h
    have hx := toks_row hX
    obtain ⟨hq, hlx, hA⟩ : t.2 ≤ l.length ∧ lexGo 0 0 (l.take t.2) = .ok A ∧ NoEnd A := by
      rcases list_end B with rfl | ⟨B, u, rfl⟩
      · have h3 : X = A ∧ endT l.length = t := end_one hT
        obtain ⟨rfl, rfl⟩ := h3
        exact ⟨Nat.le_refl _, by rw [List.take_length]; exact hX, hx⟩
      · have h3 : X = A ++ t :: B := (end_more hT).1
        subst h3
        have h4 := lexGo_cut 0 l A B t hX
        have h5 := lexGo_pos 0 l _ hX t (by simp)
        exact ⟨by omega, by simpa using h4.2, fun u hu => hx u (by simp [hu])⟩
    refine ⟨hq, ?_⟩
    have hlen : (l.take t.2).length = t.2 := by rw [List.length_take]; omega
    rcases parseV_form (l.take t.2) with ⟨e, q', h1, h3⟩ | ⟨Y, hY, _, _, ⟨x, _, h3⟩ | ⟨A', u, B', hT', hv', h3⟩⟩
    · rw [lexV_ok hlx (by omega)] at h1; cases h1
    · exact .inl ⟨x, h3⟩
    · rw [hlx] at hY
      obtain rfl := LR.ok.inj hY
      rw [hlen] at hT' hv'
      have hs := run_settled (e := endT t.2) (t :: B) rfl (16 * (A ++ [endT t.2]).length + 16) .text A
      have hv2 : run (16 * (A ++ [endT t.2]).length + 16) .text (A ++ [endT t.2]) = .bad (u :: B') := hv'
      rw [hv2] at hs
      rcases list_end B' with rfl | ⟨B', z, rfl⟩
      · have h4 : endT t.2 = u := (end_one hT').2
        rw [h3, ← h4]
        exact .inr rfl
      · exfalso
        have h4 : endT t.2 = z := (end_more hT').2
        subst h4
        have h5 := hs (u :: B') (by simp) (by simp)
        have h6 := tokV_of (row_of hx l.length) (f := 16 * (A ++ [endT t.2]).length + 16) (r := .bad (u :: B' ++ t :: B)) (by rw [hT]; exact h5) (fun h => by cases h)
        rw [hv] at h6
        have h7 := congrArg List.length (PR.bad.inj h6)
        simp at h7
        omega
/-- Where a text is wrong first doesn't change by what stands behind. -/
theorem parse_first {a b : List UInt8} {q : Nat} (h : ParseV a = .bad 21 q) (hq : q < a.length) {U : List Tok} (hU : LexV (a ++ 32 :: b) = .ok U) : ParseV (a ++ 32 :: b) = .bad 21 q := by
  rcases parseV_form a with ⟨e, q', h1, h2⟩ | ⟨X, hX, hl, hV, ⟨x, _, h2⟩ | ⟨A, t, B, hT, hv, h2⟩⟩
  · exfalso
    rw [h2] at h
    obtain ⟨rfl, rfl⟩ := PV.bad.inj h
    rcases lexV_form a with ⟨X, h3, _⟩ | ⟨h3, _⟩ | ⟨e, q, h3, _, _, h4, _⟩
    · rw [h1] at h3; cases h3
    · rw [h1] at h3
      have := (LR.bad.inj h3).1
      omega
    · rw [h1] at h3
      have := (LR.bad.inj h3).1
      omega
  · exfalso
    rw [h2] at h
    rcases treeV_form x with h3 | h3 | ⟨_, h3⟩
    · rw [h3] at h; cases h
    · rw [h3] at h
      have := (PV.bad.inj h).1
      omega
    · rw [h3] at h
      have := (PV.bad.inj h).1
      omega
  · rw [h2] at h
    obtain ⟨_, rfl⟩ := PV.bad.inj h
    rcases list_end B with rfl | ⟨B, u, rfl⟩
    · exfalso
      have h3 : endT a.length = t := (end_one hT).2
      rw [← h3] at hq
      exact absurd hq (Nat.lt_irrefl _)
    · have h3 : X = A ++ t :: B ∧ endT a.length = u := end_more hT
      obtain ⟨rfl, rfl⟩ := h3
      rcases parseV_form (a ++ 32 :: b) with ⟨e, q', h1, _⟩ | ⟨Y, hY, hl2, hV2, _⟩
      · rw [hU] at h1; cases h1
      have h4 := lexGo_two b 0 a _ hX
      rw [hY] at h4
      obtain ⟨Z, _, hZ⟩ := LR.add_ok h4.symm
      have hYn := toks_row hY
      have hrow := row_of hYn (a ++ 32 :: b).length
      have hs := run_settled (e := endT a.length) (Z ++ [endT (a ++ 32 :: b).length]) rfl (16 * (A ++ t :: B ++ [endT a.length]).length + 16) .text (A ++ t :: B)
      have hv2 : run (16 * (A ++ t :: B ++ [endT a.length]).length + 16) .text (A ++ t :: B ++ [endT a.length]) = .bad (t :: B ++ [endT a.length]) := hv
      rw [hv2] at hs
      have h5 := hs (t :: B) (by simp) rfl
      have h6 := tokV_of hrow (f := 16 * (A ++ t :: B ++ [endT a.length]).length + 16) (r := .bad (t :: B ++ (Z ++ [endT (a ++ 32 :: b).length]))) (by rw [hZ, List.append_assoc (A ++ t :: B) Z]; exact h5) (fun h => by cases h)
      unfold ParseV
      rw [hV2]
      simp only [h6]
      rfl
end
section
open Go.RowKit
/-- A block of cells. -/
def CellsIn (w : World) (g : Nat) : Prop := ∃ c t h, w.heap[g]? = some (.cells c t h)
theorem CellsIn.lt {w : World} {g : Nat} (h : CellsIn w g) : g < w.heap.size := by
  obtain ⟨c, t, h, h1⟩ := h
  exact (Array.getElem?_eq_some_iff.1 h1).1
/-- What of one world is so in another: all blocks among N, which are among N'. -/
def Move (w : World) (N : Nat → Prop) (w' : World) (N' : Nat → Prop) : Prop := ∀ g, N g → g < w.heap.size → N' g ∧ w'.heap[g]? = w.heap[g]?
theorem Move.refl (w : World) (N : Nat → Prop) : Move w N w N := fun _ h _ => ⟨h, rfl⟩
/-- A row, or what is left of one: its elements lie behind one another from some place on. -/
def RowAt (w : World) (N : Nat → Prop) (v : Value) (n : Nat) (xs : List Value) : Prop := ∃ a c, v = .slice a n c ∧ n ≤ c ∧ (n = 0 ∨ ∃ g o, a = some ⟨g, o, none⟩ ∧ N g ∧ CellsIn w g ∧ ∀ i u, xs[i]? = some u → w.cell? ⟨g, o + i, none⟩ = some u)
theorem RowAt.move {w w' : World} {N N' : Nat → Prop} {v : Value} {n : Nat} {xs : List Value} (h : RowAt w N v n xs) (hm : Move w N w' N') : RowAt w' N' v n xs := by
  obtain ⟨a, c, h1, h2, h3⟩ := h
  refine ⟨a, c, h1, h2, h3.imp id ?_⟩
  rintro ⟨g, o, rfl, hN, hl, hc⟩
  obtain ⟨h4, h5⟩ := hm g hN hl.lt
  obtain ⟨cc, ct, ch, h6⟩ := hl
  exact ⟨g, o, rfl, h4, ⟨cc, ct, ch, h5.trans h6⟩, fun i u hu => (World.cell?_of_block (w := w) (a := ⟨g, o + i, none⟩) h5).trans (hc i u hu)⟩
/-- A row whose block is among N. -/
def RowIn (w : World) (N : Nat → Prop) (_ : TypeId) (_ : Nat) (v : Value) (n : Nat) (xs : List Value) : Prop := RowAt w N v n xs ∧ n ≤ 9223372036854775807
theorem rowIn_of {w : World} {N : Nat → Prop} {e : TypeId} {size : Nat} {v : Value} {n : Nat} {xs : List Value} (h : w.ownsRow 0 e size v n xs) (h3 : ∀ b, v.ownBlock = some b → N b) : RowIn w N e size v n xs := by
  obtain ⟨h1, h2⟩ := h
  rcases h2 with h2 | ⟨g, cap, cur, rfl, hb, hg, hn, hcap, hsz, htake⟩
  · obtain ⟨rfl, h4⟩ := h2
    have h5 : n = 0 := by first | exact h4 | exact h4.1
    subst h5
    exact ⟨⟨none, 0, rfl, Nat.le_refl _, .inl rfl⟩, by decide⟩
  · refine ⟨⟨some ⟨g, 0, none⟩, cap, rfl, hn, .inr ⟨g, 0, rfl, h3 g rfl, ⟨_, _, _, hg⟩, fun i u hu => ?_⟩⟩, by have := hcap; unfold maxLen at this; omega⟩
    rw [Lib.cell_of_heap hg, Nat.zero_add]
    rw [← htake] at hu
    have h9 := (List.getElem?_eq_some_iff.1 hu).1
    rw [List.length_take] at h9
    rw [List.getElem?_take_of_lt (by omega)] at hu
    simpa using hu
theorem RowIn.move {w w' : World} {N N' : Nat → Prop} {e : TypeId} {size : Nat} {v : Value} {n : Nat} {xs : List Value} (h : RowIn w N e size v n xs) (hm : Move w N w' N') : RowIn w' N' e size v n xs := ⟨RowAt.move h.1 hm, h.2⟩
def strCells (l : List (List UInt8)) : List Value := l.map fun x => .string ⟨x.toArray⟩
mutual
def IsP (w : World) (N : Nat → Prop) : List Value → Nd → Prop
  | cs, .mk h args arms => arms = [] ∧ ∃ vl va, cs = [.int .i64 h.kind, .int .i64 h.pos, .string ⟨h.name.toArray⟩, .int .i64 h.n, .string ⟨h.s.toArray⟩, vl, va] ∧ RowIn w N 9 1 vl h.labels.length (strCells h.labels) ∧ ∃ L, RowIn w N 57 7 va args.length L.flatten ∧ IsPs w N L args
def IsPs (w : World) (N : Nat → Prop) : List (List Value) → List Nd → Prop
  | [], [] => True
  | cs :: L, e :: r => IsP w N cs e ∧ IsPs w N L r
  | _, _ => False
end
mutual
def IsE (w : World) (N : Nat → Prop) : List Value → Nd → Prop
  | cs, .mk h args arms => ∃ vl va vr, cs = [.int .i64 h.kind, .int .i64 h.pos, .string ⟨h.name.toArray⟩, .int .i64 h.n, .string ⟨h.s.toArray⟩, vl, va, vr] ∧ RowIn w N 9 1 vl h.labels.length (strCells h.labels) ∧ (∃ L, RowIn w N 28 8 va args.length L.flatten ∧ IsEs w N L args) ∧ ∃ M, RowIn w N 59 15 vr arms.length M.flatten ∧ IsAs w N M arms
def IsEs (w : World) (N : Nat → Prop) : List (List Value) → List Nd → Prop
  | [], [] => True
  | cs :: L, e :: r => IsE w N cs e ∧ IsEs w N L r
  | _, _ => False
def IsAs (w : World) (N : Nat → Prop) : List (List Value) → List (Nd × Nd) → Prop
  | [], [] => True
  | cs :: L, (p, b) :: r => (∃ c1 c2, cs = c1 ++ c2 ∧ IsP w N c1 p ∧ IsE w N c2 b) ∧ IsAs w N L r
  | _, _ => False
end
mutual
theorem IsP.move {w w' : World} {N N' : Nat → Prop} (hm : Move w N w' N') : ∀ {cs : List Value} {e : Nd}, IsP w N cs e → IsP w' N' cs e
  | cs, .mk h args arms, h0 => by
    obtain ⟨h1, vl, va, rfl, h3, L, h4, h5⟩ := h0
    exact ⟨h1, vl, va, rfl, h3.move hm, L, h4.move hm, IsPs.move hm h5⟩
theorem IsPs.move {w w' : World} {N N' : Nat → Prop} (hm : Move w N w' N') : ∀ {L : List (List Value)} {r : List Nd}, IsPs w N L r → IsPs w' N' L r
  | [], [], _ => trivial
  | _ :: _, _ :: _, h => ⟨IsP.move hm h.1, IsPs.move hm h.2⟩
  | [], _ :: _, h => h.elim
  | _ :: _, [], h => h.elim
end
mutual
theorem IsE.move {w w' : World} {N N' : Nat → Prop} (hm : Move w N w' N') : ∀ {cs : List Value} {e : Nd}, IsE w N cs e → IsE w' N' cs e
  | cs, .mk h args arms, h0 => by
    obtain ⟨vl, va, vr, rfl, h3, ⟨L, h4, h5⟩, M, h6, h7⟩ := h0
    exact ⟨vl, va, vr, rfl, h3.move hm, ⟨L, h4.move hm, IsEs.move hm h5⟩, M, h6.move hm, IsAs.move hm h7⟩
theorem IsEs.move {w w' : World} {N N' : Nat → Prop} (hm : Move w N w' N') : ∀ {L : List (List Value)} {r : List Nd}, IsEs w N L r → IsEs w' N' L r
  | [], [], _ => trivial
  | _ :: _, _ :: _, h => ⟨IsE.move hm h.1, IsEs.move hm h.2⟩
  | [], _ :: _, h => h.elim
  | _ :: _, [], h => h.elim
theorem IsAs.move {w w' : World} {N N' : Nat → Prop} (hm : Move w N w' N') : ∀ {L : List (List Value)} {r : List (Nd × Nd)}, IsAs w N L r → IsAs w' N' L r
  | [], [], _ => trivial
  | _ :: _, (_, _) :: _, ⟨⟨c1, c2, h1, h2, h3⟩, h4⟩ => ⟨⟨c1, c2, h1, IsP.move hm h2, IsE.move hm h3⟩, IsAs.move hm h4⟩
  | [], _ :: _, h => h.elim
  | _ :: _, [], h => h.elim
end
theorem IsEs.append {w : World} {N : Nat → Prop} : ∀ {L M : List (List Value)} {r s : List Nd}, IsEs w N L r → IsEs w N M s → IsEs w N (L ++ M) (r ++ s)
  | [], _, [], _, _, h => h
  | _ :: _, _, _ :: _, _, h, h' => ⟨h.1, IsEs.append h.2 h'⟩
  | [], _, _ :: _, _, h, _ => h.elim
  | _ :: _, _, [], _, h, _ => h.elim
theorem IsPs.append {w : World} {N : Nat → Prop} : ∀ {L M : List (List Value)} {r s : List Nd}, IsPs w N L r → IsPs w N M s → IsPs w N (L ++ M) (r ++ s)
  | [], _, [], _, _, h => h
  | _ :: _, _, _ :: _, _, h, h' => ⟨h.1, IsPs.append h.2 h'⟩
  | [], _, _ :: _, _, h, _ => h.elim
  | _ :: _, _, [], _, h, _ => h.elim
theorem IsAs.append {w : World} {N : Nat → Prop} : ∀ {L M : List (List Value)} {r s : List (Nd × Nd)}, IsAs w N L r → IsAs w N M s → IsAs w N (L ++ M) (r ++ s)
  | [], _, [], _, _, h => h
  | _ :: _, _, (_, _) :: _, _, h, h' => ⟨h.1, IsAs.append h.2 h'⟩
  | [], _, _ :: _, _, h, _ => h.elim
  | _ :: _, _, [], _, h, _ => h.elim
theorem IsE.len {w : World} {N : Nat → Prop} {cs : List Value} {e : Nd} (h : IsE w N cs e) : cs.length = 8 := by
  cases e
  obtain ⟨vl, va, vr, rfl, _⟩ := h
  rfl
theorem IsP.len {w : World} {N : Nat → Prop} {cs : List Value} {e : Nd} (h : IsP w N cs e) : cs.length = 7 := by
  cases e
  obtain ⟨_, vl, va, rfl, _⟩ := h
  rfl
/-- What is so of the tokens that Lex gives. -/
structure TokOK (t : Tok) : Prop where
  text : t.1.kind = 7 ∨ t.1.kind = 6 → t.1.text ≠ []
  low : 0 ≤ t.1.n
  high : t.1.n ≤ 4611686018427387903
  pos : t.2 ≤ 4096
/-- Tokens from a place on. -/
def TokLies (w : World) (g off : Nat) (T : List Tok) : Prop := ∀ (i : Nat) (t : Tok), T[i]? = some t → w.cell? ⟨g, off + i * 4, none⟩ = some (.int .i64 t.1.kind) ∧ w.cell? ⟨g, off + i * 4 + 1, none⟩ = some (.int .i64 (t.2 : Nat)) ∧ w.cell? ⟨g, off + i * 4 + 2, none⟩ = some (.string ⟨t.1.text.toArray⟩) ∧ w.cell? ⟨g, off + i * 4 + 3, none⟩ = some (.int .i64 t.1.n)
/-- The words of the operations, and the levels. -/
def wordCells : List Value := [.string ⟨#[114, 101, 102]⟩, .string ⟨#[108, 101, 110]⟩, .string ⟨#[115, 105, 122, 101]⟩, .string ⟨#[103, 101, 116, 99]⟩, .string ⟨#[112, 117, 116, 99]⟩, .string ⟨#[97, 114, 114, 97, 121]⟩, .string ⟨#[103, 101, 116]⟩, .string ⟨#[98, 121, 116, 101]⟩, .string ⟨#[99, 97, 116]⟩, .string ⟨#[]⟩, .string ⟨#[115, 101, 116]⟩, .string ⟨#[]⟩, .string ⟨#[]⟩, .string ⟨#[]⟩, .string ⟨#[]⟩]
def levelCells : List Value := [.int .i64 22, .int .i64 2, .string ⟨#[124, 124]⟩, .string ⟨#[]⟩, .string ⟨#[]⟩, .int .i64 21, .int .i64 2, .string ⟨#[38, 38]⟩, .string ⟨#[]⟩, .string ⟨#[]⟩, .int .i64 19, .int .i64 0, .string ⟨#[61]⟩, .string ⟨#[60]⟩, .string ⟨#[]⟩, .int .i64 19, .int .i64 1, .string ⟨#[43]⟩, .string ⟨#[45]⟩, .string ⟨#[]⟩, .int .i64 19, .int .i64 1, .string ⟨#[42]⟩, .string ⟨#[47]⟩, .string ⟨#[37]⟩]
/-- The variables hold what their initialisers lay. -/
structure Vars (w : World) : Prop where
  words : ∀ (i : Nat) (v : Value), wordCells[i]? = some v → w.cell? ⟨2, i, none⟩ = some v
  levels : ∀ (i : Nat) (v : Value), levelCells[i]? = some v → w.cell? ⟨1, i, none⟩ = some v
theorem Vars.keep {w w' : World} {p : Nat} (h : Vars w) (h1 : 2 < p) (h2 : 1 < p) (hk : ∀ b, b < p → w'.heap[b]? = w.heap[b]?) : Vars w' :=
  ⟨fun i v hv => (World.cell?_of_block (w := w) (a := ⟨2, i, none⟩) (hk _ h1)).trans (h.words i v hv), fun i v hv => (World.cell?_of_block (w := w) (a := ⟨1, i, none⟩) (hk _ h2)).trans (h.levels i v hv)⟩
/-- A parser, and the tokens that it still holds. -/
structure PAt (w : World) (p : Nat) (T : List Tok) : Prop where
  ex : ∃ g off cap, w.heap[p]? = some (.cells #[.slice (some ⟨g, off, none⟩) T.length cap] 85 (0, 0)) ∧ T.length ≤ cap ∧ g < p ∧ T.length ≤ 5000 ∧ TokLies w g off T
  row : Row T
  ok : ∀ t ∈ T, TokOK t
  vars : Vars w
  low : 2 < p ∧ 1 < p
theorem PAt.lt {w : World} {p : Nat} {T : List Tok} (h : PAt w p T) : p < w.heap.size := by
  obtain ⟨⟨g, off, cap, h1, _⟩, _⟩ := h
  exact box_lt h1
theorem TokLies.keep {w w' : World} {g off : Nat} {T : List Tok} (h : TokLies w g off T) (hg : w'.heap[g]? = w.heap[g]?) : TokLies w' g off T := fun i t ht => by
  obtain ⟨h1, h2, h3, h4⟩ := h i t ht
  exact ⟨(World.cell?_of_block (w := w) (a := ⟨g, _, none⟩) hg).trans h1, (World.cell?_of_block (w := w) (a := ⟨g, _, none⟩) hg).trans h2, (World.cell?_of_block (w := w) (a := ⟨g, _, none⟩) hg).trans h3, (World.cell?_of_block (w := w) (a := ⟨g, _, none⟩) hg).trans h4⟩
theorem PAt.keep {w w' : World} {p : Nat} {T : List Tok} (h : PAt w p T) (hk : ∀ b, b ≤ p → w'.heap[b]? = w.heap[b]?) : PAt w' p T := by
  obtain ⟨⟨g, off, cap, h1, h2, h3, h4, h5⟩, hr, ho, hv, hl⟩ := h
  exact ⟨⟨g, off, cap, (hk p (Nat.le_refl _)).trans h1, h2, h3, h4, h5.keep (hk g (Nat.le_of_lt h3))⟩, hr, ho, hv.keep hl.1 hl.2 fun b hb => hk b (Nat.le_of_lt hb), hl⟩
theorem PAt.below {w w' : World} {p : Nat} {T : List Tok} (h : PAt w p T) (hb : Below w.heap.size w w') : PAt w' p T := h.keep fun b hx => hb.block b (Nat.lt_of_le_of_lt hx h.lt)
/-- A parser's first token, as it is read. -/
theorem PAt.view {w : World} {p : Nat} {t : Tok} {R : List Tok} (h : PAt w p (t :: R)) : ∃ g off cap, w.cell? ⟨p, 0, none⟩ = some (.slice (some ⟨g, off, none⟩) (R.length + 1) cap) ∧ w.frozen? ⟨p, 0, none⟩ = false ∧ R.length + 1 ≤ cap ∧ g < p ∧ R.length + 1 ≤ 5000 ∧
    w.cell? ⟨g, off, none⟩ = some (.int .i64 t.1.kind) ∧ w.cell? ⟨g, off + 1, none⟩ = some (.int .i64 (t.2 : Nat)) ∧ w.cell? ⟨g, off + 2, none⟩ = some (.string ⟨t.1.text.toArray⟩) ∧ w.cell? ⟨g, off + 3, none⟩ = some (.int .i64 t.1.n) := by
  obtain ⟨⟨g, off, cap, h1, h2, h3, h4, h5⟩, _⟩ := h
  obtain ⟨k1, k2, k3, k4⟩ := h5 0 t rfl
  rw [Nat.zero_mul, Nat.add_zero] at k1 k2 k3 k4
  exact ⟨g, off, cap, by rw [Lib.cell_of_heap h1]; rfl, Lib.frozen_of_heap h1 0, h2, h3, h4, k1, k2, k3, k4⟩
/-- Behind the first token. -/
theorem PAt.next {w w' : World} {p : Nat} {t u : Tok} {R : List Tok} (h : PAt w p (t :: u :: R)) {g off cap : Nat} (hc : w.cell? ⟨p, 0, none⟩ = some (.slice (some ⟨g, off, none⟩) ((u :: R).length + 1) cap)) (ht : t.1.kind ≠ 0) (hp : w'.heap[p]? = some (.cells #[.slice (some ⟨g, off + 4, none⟩) (u :: R).length (cap - 1)] 85 (0, 0))) (hk : ∀ b, b < p → w'.heap[b]? = w.heap[b]?) : PAt w' p (u :: R) := by
  obtain ⟨⟨g', off', cap', h1, h2, h3, h4, h5⟩, hr, ho, hv, hl⟩ := h
  rw [Lib.cell_of_heap h1] at hc
  have hc : Value.slice (some ⟨g', off', none⟩) (t :: u :: R).length cap' = .slice (some ⟨g, off, none⟩) ((u :: R).length + 1) cap := Option.some.inj hc
  simp only [Value.slice.injEq, Option.some.injEq, Addr.mk.injEq] at hc
  obtain ⟨⟨rfl, rfl, _⟩, _, rfl⟩ := hc
  rw [List.length_cons] at h2 h4
  refine ⟨⟨g', off' + 4, cap' - 1, hp, by omega, h3, by omega, fun i x hx => ?_⟩, hr.right (P := [t]) (NoEnd.nil.cons ht), fun x hx => ho x (by simp [hx]), hv.keep hl.1 hl.2 hk, hl⟩
  obtain ⟨k1, k2, k3, k4⟩ := (h5.keep (hk g' h3)) (i + 1) x (by simpa using hx)
  rw [show off' + (i + 1) * 4 = off' + 4 + i * 4 by omega] at k1 k2 k3 k4
  exact ⟨k1, k2, k3, k4⟩
theorem grown_keep {w w' : World} {p : Nat} (h : w.grownBy w' (some p)) : ∀ b, b < w.heap.size → b ≠ p → w'.heap[b]? = w.heap[b]? := fun b hb hn => h.block b hb fun e => hn (Option.some.inj e)
theorem grown_trans {a b c : World} {r : Option Nat} (h : a.grownBy b r) (k : b.grownBy c r) : a.grownBy c r := ⟨k.os.trans h.os, k.tape.trans h.tape, k.output.trans h.output, Nat.le_trans h.size k.size, fun i hi hr => (k.block i (Nat.lt_of_lt_of_le hi h.size) hr).trans (h.block i hi hr)⟩
theorem grown_below {a b c : World} {r : Option Nat} (h : a.grownBy b r) (hb : Below b.heap.size b c) : a.grownBy c r := ⟨hb.os.trans h.os, hb.tape.trans h.tape, hb.output.trans h.output, Nat.le_trans h.size hb.size, fun i hi hr => (hb.block i (Nat.lt_of_lt_of_le hi h.size)).trans (h.block i hi hr)⟩
theorem grown_of {a b : World} (h : Below a.heap.size a b) (r : Option Nat) : a.grownBy b r := ⟨h.os, h.tape, h.output, h.size, fun i hi _ => h.block i hi⟩
/-- All is as it was, but what is laid anew, the block p, and the block b of one's own. -/
theorem grown_set {a c : World} {p b : Nat} (h : a.grownBy c (some p)) (hb : a.heap.size ≤ b ∨ b = p) (i : Nat) (v : Value) : a.grownBy (c.setCell ⟨b, i, none⟩ v) (some p) := by
  refine ⟨h.os, h.tape, h.output, by simpa using h.size, fun j hj hr => ?_⟩
  rw [Below.heap_setCell _ _ _ _ (fun e => ?_)]
  · exact h.block j hj hr
  · have e : j = b := e
    rcases hb with hb | hb
    · omega
    · exact hr (by rw [e, hb])
theorem grown_drew {a c : World} {r : Option Nat} (h : a.grownBy c r) (n : Nat) : a.grownBy (c.drewN n) r := ⟨h.os, h.tape, h.output, h.size, h.block⟩
theorem PAt.step {w : World} {p : Nat} {t u : Tok} {R : List Tok} (h : PAt w p (t :: u :: R)) {g off cap n : Nat} (hc : w.cell? ⟨p, 0, none⟩ = some (.slice (some ⟨g, off, none⟩) (n + 1) cap)) (ht : t.1.kind ≠ 0) (hn : (u :: R).length = n) :
    PAt (w.setCell ⟨p, 0, none⟩ (.slice (some ⟨g, off + 4, none⟩) n (cap - 1))) p (u :: R) ∧ w.grownBy (w.setCell ⟨p, 0, none⟩ (.slice (some ⟨g, off + 4, none⟩) n (cap - 1))) (some p) := by
  subst hn
  refine ⟨h.next hc ht ?_ fun b hb => Below.heap_setCell _ _ _ _ (fun e => by have e : b = p := e; omega), grown_set (World.grownBy.refl _ _) (.inr rfl) _ _⟩
  obtain ⟨⟨g', off', cap', h1, _⟩, _⟩ := h
  rw [heap_setOne h1]; rfl
/-- What a fault says. -/
def faultV (q : Nat) : Ending := .panicked [{ v := .iface 68 (.agg #[.int .i64 21, .int .i64 (q : Nat)]), recovered := false }]
end
section
open Go.RowKit
/-- A row of texts as it is read. -/
def StrAt (w : World) (v : Value) (L : List (List UInt8)) : Prop := ∃ g o cap, v = .slice (some ⟨g, o, none⟩) L.length cap ∧ g < w.heap.size ∧ ∀ (i : Nat) (l : List UInt8), L[i]? = some l → w.cell? ⟨g, o + i, none⟩ = some (.string ⟨l.toArray⟩)
theorem StrAt.below {w w' : World} {v : Value} {L : List (List UInt8)} (h : StrAt w v L) (hb : Below w.heap.size w w') : StrAt w' v L := by
  obtain ⟨g, o, cap, h1, h2, h3⟩ := h
  exact ⟨g, o, cap, h1, Nat.lt_of_lt_of_le h2 hb.size, fun i l hl => (hb.cell (p := ⟨g, o + i, none⟩) h2).trans (h3 i l hl)⟩
def indexOf (x : List UInt8) (L : List (List UInt8)) : Int := match L.idxOf? x with
  | some i => (i : Nat)
  | none => -1
def SameInt (n : Int) (w : World) (e : Ending) (w' : World) : Prop := e = .returned (.int .i64 n) ∧ w = w'
def SameBool (b : Bool) (w : World) (e : Ending) (w' : World) : Prop := e = .returned (.bool b) ∧ w = w'
theorem idx_found {x : List UInt8} : ∀ {L : List (List UInt8)} {i : Nat}, (∀ j, j < i → ∀ l, L[j]? = some l → l ≠ x) → L[i]? = some x → L.contains x = true ∧ 0 ≤ (i : Int)
  | L, i, _, h => ⟨by simpa using List.mem_of_getElem? h, by omega⟩
theorem idx_none {x : List UInt8} {L : List (List UInt8)} (h : ∀ j, j < L.length → ∀ l, L[j]? = some l → l ≠ x) : L.contains x = false := by
  rw [← Bool.not_eq_true]
  intro hc
  have hc : x ∈ L := by simpa using hc
  obtain ⟨j, hj, hx⟩ := List.mem_iff_getElem.1 hc
  exact h j hj x (by rw [List.getElem?_eq_getElem hj, hx]) rfl
def IndexIs (b : Bool) (w : World) (e : Ending) (w' : World) : Prop := ∃ n : Int, e = .returned (.int .i64 n) ∧ w = w' ∧ ((b = true ∧ 0 ≤ n ∧ n ≤ 100000) ∨ (b = false ∧ n = -1))
set_option maxRecDepth 100000 in
set_option maxHeartbeats 1000000 in
theorem strs_Index (v : Value) (L : List (List UInt8)) (x : List UInt8) (w : World) (h : StrAt w v L) (hl : L.length ≤ 1000) : Calls Tryd.prog 93 #[v, .string ⟨x.toArray⟩] w (IndexIs (L.contains x) w) := by
  obtain ⟨g, o, cap, rfl, hg, hc⟩ := h
  have HC := Lib.hid hc
  have HF := Lib.hid (fun (i : Nat) (h1 : ∀ j, j < i → ∀ l, L[j]? = some l → l ≠ x) (h2 : L[i]? = some x) => (idx_found h1 h2).1)
  have HN := Lib.hid (fun (h1 : ∀ j, j < L.length → ∀ l, L[j]? = some l → l ≠ x) => idx_none h1)
  have HG := Lib.hid (fun (i : Nat) (h : i < L.length) => (show ∃ l, L[i]? = some l from ⟨L[i], List.getElem?_eq_getElem h⟩))
  clear hc
  generalize L.contains x = b at *
  generalize hn : L.length = n at *
  clear hn
  go_enter Tryd.func93, Tryd.ntmps93
  go_wp2_with fail
  go_loopw [8] (fun vi wr => ∃ i : Nat, i ≤ n ∧ vi = .int .i64 i ∧ wr = w ∧ Hid (∀ j, j < i → ∀ l, L[j]? = some l → l ≠ x)) (fun vi _ => n - (intOf vi).toNat)
  case atStart => exact ⟨0, by omega, by go_num, rfl, Lib.hid (fun j hj => absurd hj (by omega))⟩
  case round =>
    obtain ⟨i, hi, rfl, rfl, HJ⟩ := hrel
    by_cases hi2 : i < n
    · have g1 : decide ((i : Int) < (n : Int)) = true := decide_eq_true (by omega)
      have g2 : (i : Int) < (n : Int) := by omega
      have g3 : (0 : Int) ≤ (i : Int) := by omega
      obtain ⟨l, hli⟩ := HG.out i hi2
      have k1 := HC.out i l hli
      have HLI := Lib.hid hli
      clear hli
      by_cases hx : l = x
      · subst hx
        have HE := Lib.hid (HF.out i HJ.out HLI.out)
        go_wp2_with fail
        go_ret
        exact ⟨i, rfl, rfl, .inl ⟨HE.out, g3, by omega⟩⟩
      · have HX : Hid (∀ j, j < i + 1 → ∀ l, L[j]? = some l → l ≠ x) := Lib.hid (fun j hj l' hl' => by
          rcases Nat.lt_or_eq_of_le (Nat.le_of_lt_succ hj) with h1 | rfl
          · exact HJ.out j h1 l' hl'
          · have := HLI.out
            rw [hl'] at this
            rw [Option.some.inj this]; exact hx)
        have e1 : (x == l) = false := by rw [beq_eq_false_iff_ne]; exact fun h => hx h.symm
        have e2 : ((⟨x.toArray⟩ : ByteArray).toList == (⟨l.toArray⟩ : ByteArray).toList) = false := by rw [beq_eq_false_iff_ne, list_of, list_of]; exact fun h => hx h.symm
        clear hx
        go_wp2_with fail
        go_roundw
        case rel => exact ⟨i + 1, by omega, by go_num, by trivial, HX⟩
        case measure => simp [intOf]; omega
    · have g1 : decide ((i : Int) < (n : Int)) = false := decide_eq_false (by omega)
      obtain rfl : i = n := by omega
      have HE := Lib.hid (HN.out HJ.out)
      go_wp2_with fail
      go_ret
      exact ⟨-1, rfl, rfl, .inr ⟨HE.out, rfl⟩⟩
theorem strs_Contains (v : Value) (L : List (List UInt8)) (x : List UInt8) (w : World) (h : StrAt w v L) (hl : L.length ≤ 1000) : Calls Tryd.prog 87 #[v, .string ⟨x.toArray⟩] w (SameBool (L.contains x) w) := by
  have HI := Lib.hid (strs_Index v L x w h hl)
  generalize L.contains x = b at *
  clear h hl
  go_enter Tryd.func87, Tryd.ntmps87
  go_wp2_with fail
  refine HI.out.mono ?_
  rintro e w' ⟨n, rfl, rfl, ⟨rfl, h1, h2⟩ | ⟨rfl, rfl⟩⟩
  · have B1 : decide (0 ≤ n) = true := decide_eq_true h1
    go_wp2_with fail
    go_ret
    exact ⟨rfl, rfl⟩
  · go_wp2_with fail
    go_ret
    exact ⟨rfl, rfl⟩
/-- A token as a value. -/
def tokVal (t : Tok) : Value := tokAgg t.1.kind (t.2 : Nat) t.1.text t.1.n
set_option maxRecDepth 100000 in
set_option maxHeartbeats 1000000 in
theorem p_isOne (t : Tok) (v : Value) (L : List (List UInt8)) (w : World) (h : StrAt w v L) (hl : L.length ≤ 1000) : Calls Tryd.prog 79 #[tokVal t, v] w (YesMade (isOne L t) w) := by
  obtain ⟨⟨tk, tx, tn⟩, ta⟩ := t
  have HB := Lib.hid (below_one' (w := w) (.cells #[.int .i64 tk, .int .i64 (ta : Int), .string ⟨tx.toArray⟩, .int .i64 tn] 43 (0, 0)))
  have HC := Lib.hid (strs_Contains v L tx _ (h.below HB.out) hl)
  have HE : Hid (isOne L (⟨tk, tx, tn⟩, ta) = ((decide (tk = 7) || decide (tk = 6)) && L.contains tx)) := Lib.hid rfl
  generalize isOne L (⟨tk, tx, tn⟩, ta) = b at *
  generalize L.contains tx = bc at *
  unfold tokVal tokAgg
  clear h hl
  by_cases h7 : tk = 7
  · subst h7
    go_enter Tryd.func79, Tryd.ntmps79
    go_wp2_with fail
    refine HC.out.mono ?_
    rintro e w' ⟨rfl, rfl⟩
    go_wp2_with fail
    go_ret
    exact ⟨by rw [HE.out]; rfl, HB.out⟩
  · have e7 : (tk == 7) = false := by rw [beq_eq_false_iff_ne]; exact h7
    by_cases h6 : tk = 6
    · subst h6
      go_enter Tryd.func79, Tryd.ntmps79
      go_wp2_with fail
      refine HC.out.mono ?_
      rintro e w' ⟨rfl, rfl⟩
      go_wp2_with fail
      go_ret
      exact ⟨by rw [HE.out]; rfl, HB.out⟩
    · have e6 : (tk == 6) = false := by rw [beq_eq_false_iff_ne]; exact h6
      have HE2 : Hid (b = false) := Lib.hid (by rw [HE.out, decide_eq_false h7, decide_eq_false h6]; rfl)
      clear HE h7 h6
      go_enter Tryd.func79, Tryd.ntmps79
      go_wp2_with fail
      go_ret
      exact ⟨by rw [HE2.out]; rfl, HB.out⟩
end
section
open Go.RowKit
def Refused (q : Nat) (w : World) (e : Ending) (w' : World) : Prop := e = faultV q ∧ Below w.heap.size w w'
set_option maxRecDepth 100000 in
set_option maxHeartbeats 1000000 in
theorem p_refuse (p : Nat) (t : Tok) (R : List Tok) (w : World) (h : PAt w p (t :: R)) : Calls Tryd.prog 51 #[.pointer (some ⟨p, 0, none⟩)] w (Refused t.2 w) := by
  obtain ⟨g, off, cap, c0, _, h1, h2, h3, k0, k1, k2, k3⟩ := h.view
  have hp := h.lt
  clear h
  have g1 : (0 : Int) < ((R.length : Int) + 1) := by omega
  generalize R.length = n at *
  go_enter Tryd.func51, Tryd.ntmps51
  go_wp2_with fail
  exact ⟨rfl, rfl, Below.refl _ _⟩
set_option maxRecDepth 100000 in
set_option maxHeartbeats 1000000 in
theorem p_sees (p : Nat) (t : Tok) (R : List Tok) (v : Value) (L : List (List UInt8)) (w : World) (h : PAt w p (t :: R)) (hv : StrAt w v L) (hl : L.length ≤ 1000) : Calls Tryd.prog 67 #[.pointer (some ⟨p, 0, none⟩), v] w (YesMade (isOne L t) w) := by
  obtain ⟨g, off, cap, c0, _, h1, h2, h3, k0, k1, k2, k3⟩ := h.view
  have hp := h.lt
  have HO := Lib.hid (p_isOne t v L w hv hl)
  unfold tokVal tokAgg at HO
  clear h hv hl
  have g1 : (0 : Int) < ((R.length : Int) + 1) := by omega
  generalize isOne L t = b at *
  generalize R.length = n at *
  go_enter Tryd.func67, Tryd.ntmps67
  go_wp2_with fail
  refine HO.out.mono ?_
  rintro e w' ⟨rfl, hb⟩
  have HB := Lib.hid hb
  clear hb
  go_wp2_with fail
  go_ret
  exact ⟨rfl, HB.out⟩
theorem below_two {w : World} (o o' : Obj) : Below w.heap.size w ((w.alloc o).alloc o') := ((Below.refl _ w).alloc (Nat.le_refl _) o).alloc (by simp) o'
def ReadIs (t : Tok) (p : Nat) (R : List Tok) (w : World) (e : Ending) (w' : World) : Prop := e = .returned (tokVal t) ∧ PAt w' p R ∧ w.grownBy w' (some p)
set_option maxRecDepth 100000 in
set_option maxHeartbeats 1000000 in
theorem p_read (p : Nat) (t u : Tok) (R : List Tok) (w : World) (h : PAt w p (t :: u :: R)) (ht : t.1.kind ≠ 0) : Calls Tryd.prog 74 #[.pointer (some ⟨p, 0, none⟩)] w (ReadIs t p (u :: R) w) := by
  obtain ⟨g, off, cap, c0, f0, h1, h2, h3, k0, k1, k2, k3⟩ := h.view
  have hp := h.lt
  have g1 : (0 : Int) < (((u :: R).length : Int) + 1) := by omega
  have g2 : (1 : Int) ≤ (((u :: R).length : Int) + 1) := by omega
  have g3 : 1 ≤ (u :: R).length := by simp
  have g4 : ¬ cap = 1 := by omega
  have HS := Lib.hid (h.step c0 ht rfl)
  have hgl : g < w.heap.size := by omega
  clear h ht
  generalize (u :: R).length = n at *
  go_enter Tryd.func74, Tryd.ntmps74
  go_wp2_with fail
  have HB := Lib.hid (below_two (w := w.setCell ⟨p, 0, none⟩ (.slice (some ⟨g, off + 4, none⟩) n (cap - 1))) (.cells #[.int .i64 t.1.kind, .int .i64 (t.2 : Nat), .string ⟨t.1.text.toArray⟩, .int .i64 t.1.n] 43 (0, 0)) (.cells #[.int .i64 t.1.kind, .int .i64 (t.2 : Nat), .string ⟨t.1.text.toArray⟩, .int .i64 t.1.n] 43 (0, 0)))
  refine bodyPost_ret (v := tokVal t) (by simp [results, Tryd.results74, go_sem, tokVal, tokAgg]) rfl ⟨rfl, HS.out.1.below HB.out, grown_below HS.out.2 HB.out⟩
/-- Strings that have just been laid. -/
theorem strAt_new (w : World) (L : List (List UInt8)) : StrAt (w.alloc (.cells (L.map fun l => Value.string ⟨l.toArray⟩).toArray 9 (0, 0))) (.slice (some ⟨w.heap.size, 0, none⟩) L.length L.length) L :=
  ⟨w.heap.size, 0, L.length, rfl, by simp, fun i l hl => by
    rw [Lib.cell_of_heap (box_at w _ _ rfl), Nat.zero_add, List.getElem?_toArray, List.getElem?_map, hl]; rfl⟩
/-- The next token is one of these, or not. -/
def Accepted (L : List (List UInt8)) (p : Nat) (t : Tok) (R : List Tok) (w : World) (e : Ending) (w' : World) : Prop :=
  (isOne L t = true ∧ e = .returned (.tuple #[tokVal t, .bool true]) ∧ PAt w' p R ∧ w.grownBy w' (some p)) ∨
  (isOne L t = false ∧ e = .returned (.tuple #[tokAgg 0 0 [] 0, .bool false]) ∧ Below w.heap.size w w')
def Needed (L : List (List UInt8)) (p : Nat) (t : Tok) (R : List Tok) (w : World) (e : Ending) (w' : World) : Prop :=
  (isOne L t = true ∧ e = .returned (tokVal t) ∧ PAt w' p R ∧ w.grownBy w' (some p)) ∨
  (isOne L t = false ∧ e = faultV t.2 ∧ Below w.heap.size w w')
def NameIs (p : Nat) (t : Tok) (R : List Tok) (w : World) (e : Ending) (w' : World) : Prop :=
  (isKind 1 t = true ∧ e = .returned (.string ⟨t.1.text.toArray⟩) ∧ PAt w' p R ∧ w.grownBy w' (some p)) ∨
  (isKind 1 t = false ∧ e = faultV t.2 ∧ Below w.heap.size w w')
theorem row_more {t : Tok} {R : List Tok} (h : Row (t :: R)) (ht : t.1.kind ≠ 0) : ∃ u S, R = u :: S := by
  cases R with
  | nil =>
    obtain ⟨X, e, h1, h2, h3⟩ := h
    have := (end_one (X := []) (A := X) (e := t) (t := e) h1).2
    rw [this] at ht
    exact absurd h3 ht
  | cons u S => exact ⟨u, S, rfl⟩
theorem PAt.set {w : World} {p b : Nat} {T : List Tok} (h : PAt w p T) (hb : p < b) (i : Nat) (v : Value) : PAt (w.setCell ⟨b, i, none⟩ v) p T :=
  h.keep fun j hj => Below.heap_setCell _ _ _ _ (fun e => by have e : j = b := e; omega)
/-- A token is stored into a box of one's own. -/
theorem tok_put {a w1 w2 : World} {b p : Nat} {k q n : Int} {s : ByteArray} {R : List Tok} (h : TokBox w1 b k q s n) (hp : PAt w1 p R) (hg : a.grownBy w1 (some p)) (hb : a.heap.size ≤ b) (hpb : p < b) (k' q' : Int) (s' : ByteArray) (n' : Int) (he : tokSet w1 b k' q' s' n' = w2) : TokBox w2 b k' q' s' n' ∧ PAt w2 p R ∧ a.grownBy w2 (some p) := by
  subst he
  unfold tokSet
  exact ⟨h.set _ _ _ _, (((hp.set hpb _ _).set hpb _ _).set hpb _ _).set hpb _ _, grown_set (grown_set (grown_set (grown_set hg (.inl hb) _ _) (.inl hb) _ _) (.inl hb) _ _) (.inl hb) _ _⟩
set_option maxRecDepth 100000 in
set_option maxHeartbeats 1000000 in
theorem p_accept (p : Nat) (t : Tok) (R : List Tok) (v : Value) (L : List (List UInt8)) (w : World) (h : PAt w p (t :: R)) (hv : StrAt w v L) (hl : L.length ≤ 1000) : Calls Tryd.prog 58 #[.pointer (some ⟨p, 0, none⟩), v] w (Accepted L p t R w) := by
  have hb0 := below_tok w
  have HP := Lib.hid (h.below hb0)
  have HB0 := Lib.hid hb0
  have HO := Lib.hid (p_sees p t R v L _ HP.out (hv.below hb0) hl)
  have HE := Lib.hid (fun (hx : isOne L t = true) => ends_one L t hx)
  have HR := Lib.hid (fun (hx : isOne L t = true) => row_more h.row (ends_one L t hx))
  have HLT := Lib.hid h.lt
  clear h hv hl hb0
  obtain ⟨b, hbe⟩ : ∃ b, isOne L t = b := ⟨_, rfl⟩
  have HBE := Lib.hid hbe
  rw [hbe] at HO
  clear hbe
  go_enter Tryd.func58, Tryd.ntmps58
  go_wp2_with fail
  refine HO.out.mono ?_
  rintro e w1 ⟨rfl, hb1⟩
  have HB1 := Lib.hid (HB0.out.trans (hb1.mono HB0.out.size))
  have HP1 := Lib.hid (HP.out.below hb1)
  have HN := Lib.hid ((TokBox.new w).below hb1 (by simp))
  clear hb1 HO HP HB0
  cases b with
  | false =>
    obtain ⟨c0, c1, c2, c3, cf⟩ := HN.out.cells
    have f0 := cf 0
    have f1 := cf 1
    have f2 := cf 2
    have f3 := cf 3
    have hl := box_lt HN.out
    clear cf HE HR HP1
    go_wp2_with fail
    have HS := Lib.hid (tok_stored HN.out HB1.out (Nat.le_refl _) 0 0 ⟨#[]⟩ 0 rfl)
    unfold tokSet at HS
    generalize World.setCell _ _ _ = w9 at *
    obtain ⟨d0, d1, d2, d3, _⟩ := HS.out.1.cells
    refine bodyPost_ret (v := .tuple #[tokAgg 0 0 [] 0, .bool false]) (by simp [results, Tryd.results58, go_sem, d0, d1, d2, d3, tokAgg]) rfl (.inr ⟨HBE.out, rfl, HS.out.2⟩)
  | true =>
    obtain ⟨u, S, rfl⟩ := HR.out HBE.out
    have HRD := Lib.hid (p_read p t u S w1 HP1.out (HE.out HBE.out))
    clear HE HR HP1
    go_wp2_with fail
    refine HRD.out.mono ?_
    rintro e w2 ⟨rfl, hp2, hg2⟩
    have HP2 := Lib.hid hp2
    have HG2 := Lib.hid (grown_trans (grown_of HB1.out (some p)) hg2)
    have HN2 : Hid (TokBox w2 w.heap.size 0 0 ⟨#[]⟩ 0) := Lib.hid ((grown_keep hg2 _ (box_lt HN.out) (by have := HLT.out; omega)).trans HN.out)
    obtain ⟨c0, c1, c2, c3, cf⟩ := HN2.out.cells
    have f0 := cf 0
    have f1 := cf 1
    have f2 := cf 2
    have f3 := cf 3
    have hl := box_lt HN2.out
    unfold tokVal tokAgg
    clear cf hp2 hg2 HRD HN HB1
    go_wp2_with fail
    have HS := Lib.hid (tok_put HN2.out HP2.out HG2.out (Nat.le_refl _) HLT.out t.1.kind (t.2 : Nat) ⟨t.1.text.toArray⟩ t.1.n rfl)
    unfold tokSet at HS
    generalize World.setCell _ _ _ = w9 at *
    obtain ⟨d0, d1, d2, d3, _⟩ := HS.out.1.cells
    refine bodyPost_ret (v := .tuple #[tokVal t, .bool true]) (by simp [results, Tryd.results58, go_sem, d0, d1, d2, d3, tokVal, tokAgg]) rfl (.inl ⟨HBE.out, rfl, HS.out.2⟩)
set_option maxRecDepth 100000 in
set_option maxHeartbeats 1000000 in
theorem p_need (p : Nat) (t : Tok) (R : List Tok) (v : Value) (L : List (List UInt8)) (w : World) (h : PAt w p (t :: R)) (hv : StrAt w v L) (hl : L.length ≤ 1000) : Calls Tryd.prog 80 #[.pointer (some ⟨p, 0, none⟩), v] w (Needed L p t R w) := by
  have hb0 := below_tok w
  have HP := Lib.hid (h.below hb0)
  have HB0 := Lib.hid hb0
  have HO := Lib.hid (p_sees p t R v L _ HP.out (hv.below hb0) hl)
  have HE := Lib.hid (fun (hx : isOne L t = true) => ends_one L t hx)
  have HR := Lib.hid (fun (hx : isOne L t = true) => row_more h.row (ends_one L t hx))
  have HLT := Lib.hid h.lt
  clear h hv hl hb0
  obtain ⟨b, hbe⟩ : ∃ b, isOne L t = b := ⟨_, rfl⟩
  have HBE := Lib.hid hbe
  rw [hbe] at HO
  clear hbe
  go_enter Tryd.func80, Tryd.ntmps80
  go_wp2_with fail
  refine HO.out.mono ?_
  rintro e w1 ⟨rfl, hb1⟩
  have HB1 := Lib.hid (HB0.out.trans (hb1.mono HB0.out.size))
  have HP1 := Lib.hid (HP.out.below hb1)
  have HN := Lib.hid ((TokBox.new w).below hb1 (by simp))
  clear hb1 HO HP HB0
  cases b with
  | false =>
    have HRF := Lib.hid (p_refuse p t R w1 HP1.out)
    clear HE HR HP1 HN
    go_wp2_with fail
    refine HRF.out.mono ?_
    rintro e w2 ⟨rfl, hb2⟩
    have HB2 := Lib.hid (HB1.out.trans (hb2.mono HB1.out.size))
    clear hb2 HRF
    unfold faultV
    go_wp2_with fail
    exact ⟨rfl, .inr ⟨HBE.out, rfl, HB2.out⟩⟩
  | true =>
    obtain ⟨u, S, rfl⟩ := HR.out HBE.out
    have HRD := Lib.hid (p_read p t u S w1 HP1.out (HE.out HBE.out))
    clear HE HR HP1
    go_wp2_with fail
    refine HRD.out.mono ?_
    rintro e w2 ⟨rfl, hp2, hg2⟩
    have HP2 := Lib.hid hp2
    have HG2 := Lib.hid (grown_trans (grown_of HB1.out (some p)) hg2)
    have HN2 : Hid (TokBox w2 w.heap.size 0 0 ⟨#[]⟩ 0) := Lib.hid ((grown_keep hg2 _ (box_lt HN.out) (by have := HLT.out; omega)).trans HN.out)
    obtain ⟨c0, c1, c2, c3, cf⟩ := HN2.out.cells
    have f0 := cf 0
    have f1 := cf 1
    have f2 := cf 2
    have f3 := cf 3
    have hl := box_lt HN2.out
    unfold tokVal tokAgg
    clear cf hp2 hg2 HRD HN HB1
    go_wp2_with fail
    have HS := Lib.hid (tok_put HN2.out HP2.out HG2.out (Nat.le_refl _) HLT.out t.1.kind (t.2 : Nat) ⟨t.1.text.toArray⟩ t.1.n rfl)
    unfold tokSet at HS
    generalize World.setCell _ _ _ = w9 at *
    obtain ⟨d0, d1, d2, d3, _⟩ := HS.out.1.cells
    refine bodyPost_ret (v := tokVal t) (by simp [results, Tryd.results80, go_sem, d0, d1, d2, d3, tokVal, tokAgg]) rfl (.inl ⟨HBE.out, rfl, HS.out.2⟩)
theorem tok_field (k a n : Int) (s : ByteArray) (w : World) : (Instr.field 43 (.agg #[.int .i64 k, .int .i64 a, .string s, .int .i64 n]) 2).run Tryd.prog w = .ok (.string s) w := by kernel_rfl
set_option maxRecDepth 100000 in
set_option maxHeartbeats 1000000 in
theorem p_name (p : Nat) (t : Tok) (R : List Tok) (w : World) (h : PAt w p (t :: R)) : Calls Tryd.prog 81 #[.pointer (some ⟨p, 0, none⟩)] w (NameIs p t R w) := by
  obtain ⟨g, off, cap, c0, f0, h1, h2, h3, k0, k1, k2, k3⟩ := h.view
  have hp := h.lt
  have HP := Lib.hid h
  have HR := Lib.hid (fun (hx : t.1.kind ≠ 0) => row_more h.row hx)
  have g1 : (0 : Int) < ((R.length : Int) + 1) := by omega
  clear h
  by_cases hk : t.1.kind = 1
  · have HK : Hid (isKind 1 t = true) := Lib.hid (by unfold isKind; exact decide_eq_true hk)
    obtain ⟨u, S, rfl⟩ := HR.out (by omega)
    have HRD := Lib.hid (p_read p t u S w HP.out (by omega))
    have B1 : (t.1.kind != 1) = false := by rw [bne_eq_false_iff_eq]; exact hk
    clear HP HR hk
    generalize (u :: S).length = n at *
    go_enter Tryd.func81, Tryd.ntmps81
    go_wp2_with fail
    refine HRD.out.mono ?_
    rintro e w2 ⟨rfl, hp2, hg2⟩
    have HP2 := Lib.hid hp2
    have HG2 := Lib.hid hg2
    unfold tokVal tokAgg
    have hfd := fun W => tok_field t.1.kind (t.2 : Nat) t.1.n ⟨t.1.text.toArray⟩ W
    clear hp2 hg2 HRD c0 k0 k1 k2 k3
    go_wp2_with fail
    go_ret
    exact .inl ⟨HK.out, rfl, HP2.out, HG2.out⟩
  · have HK : Hid (isKind 1 t = false) := Lib.hid (by unfold isKind; exact decide_eq_false hk)
    have HRF := Lib.hid (p_refuse p t R w HP.out)
    have B1 : (t.1.kind != 1) = true := by rw [bne_iff_ne]; exact hk
    clear HP HR hk
    generalize R.length = n at *
    go_enter Tryd.func81, Tryd.ntmps81
    go_wp2_with fail
    refine HRF.out.mono ?_
    rintro e w2 ⟨rfl, hb2⟩
    have HB2 := Lib.hid hb2
    clear hb2 HRF
    unfold faultV
    go_wp2_with fail
    exact ⟨rfl, .inr ⟨HK.out, rfl, HB2.out⟩⟩
end
section
open Go.RowKit
theorem below_three {w : World} (o o' o'' : Obj) : Below w.heap.size w (((w.alloc o).alloc o').alloc o'') := (below_two o o').alloc (by simp; omega) o''
/-- A parser, behind what was done since the world a. -/
structure Keep (a : World) (p : Nat) (R : List Tok) (w : World) : Prop where
  at_ : PAt w p R
  grown : a.grownBy w (some p)
theorem Keep.start {w : World} {p : Nat} {R : List Tok} (h : PAt w p R) : Keep w p R w := ⟨h, World.grownBy.refl _ _⟩
theorem Keep.below {a w w' : World} {p : Nat} {R : List Tok} (h : Keep a p R w) (hb : Below w.heap.size w w') : Keep a p R w' := ⟨h.at_.below hb, grown_below h.grown hb⟩
theorem Keep.more {a w w' : World} {p : Nat} {R S : List Tok} (h : Keep a p R w) (hp : PAt w' p S) (hg : w.grownBy w' (some p)) : Keep a p S w' := ⟨hp, grown_trans h.grown hg⟩
theorem Keep.trans {a w w' : World} {p : Nat} {R S : List Tok} (h : Keep a p R w) (k : Keep w p S w') : Keep a p S w' := ⟨k.at_, grown_trans h.grown k.grown⟩
theorem Keep.set {a w : World} {p b : Nat} {R : List Tok} (h : Keep a p R w) (hb : a.heap.size ≤ b) (hp : p < b) (i : Nat) (v : Value) : Keep a p R (w.setCell ⟨b, i, none⟩ v) := ⟨h.at_.set hp i v, grown_set h.grown (.inl hb) i v⟩
theorem Keep.size {a w : World} {p : Nat} {R : List Tok} (h : Keep a p R w) : a.heap.size ≤ w.heap.size := h.grown.size
theorem Keep.block {a w : World} {p : Nat} {R : List Tok} (h : Keep a p R w) (b : Nat) (hb : b < a.heap.size) (hn : b ≠ p) : w.heap[b]? = a.heap[b]? := grown_keep h.grown b hb hn
theorem tokBox_new (w : World) (k a n : Int) (s : ByteArray) : TokBox (w.alloc (.cells #[.int .i64 k, .int .i64 a, .string s, .int .i64 n] 43 (0, 0))) w.heap.size k a s n := box_at w _ _ rfl
theorem TokBox.more {w w' : World} {b : Nat} {k a n : Int} {s : ByteArray} (h : TokBox w b k a s n) (hb : Below w.heap.size w w') : TokBox w' b k a s n := (hb.block b (box_lt h)).trans h
theorem TokBox.keep {a w : World} {p b : Nat} {R : List Tok} {k q n : Int} {s : ByteArray} (h : TokBox a b k q s n) (hk : Keep a p R w) (hn : p < b) : TokBox w b k q s n := (hk.block b (box_lt h) (by omega)).trans h
/-- A box of 5 cells. -/
def Box5 (w : World) (b : Nat) (ty : TypeId) (v0 v1 v2 v3 v4 : Value) : Prop := w.heap[b]? = some (.cells #[v0, v1, v2, v3, v4] ty (0, 0))
def set5 (w : World) (b : Nat) (v0 v1 v2 v3 v4 : Value) : World := ((((w.setCell ⟨b, 0, none⟩ v0).setCell ⟨b, 1, none⟩ v1).setCell ⟨b, 2, none⟩ v2).setCell ⟨b, 3, none⟩ v3).setCell ⟨b, 4, none⟩ v4
section
variable {w a w' : World} {b p : Nat} {ty : TypeId} {c0 c1 c2 c3 c4 v0 v1 v2 v3 v4 : Value} {R : List Tok}
theorem Box5.cells (h : Box5 w b ty v0 v1 v2 v3 v4) : w.cell? ⟨b, 0, none⟩ = some v0 ∧ w.cell? ⟨b, 1, none⟩ = some v1 ∧ w.cell? ⟨b, 2, none⟩ = some v2 ∧ w.cell? ⟨b, 3, none⟩ = some v3 ∧ w.cell? ⟨b, 4, none⟩ = some v4 ∧ ∀ i, w.frozen? ⟨b, i, none⟩ = false := by
  refine ⟨?_, ?_, ?_, ?_, ?_, Lib.frozen_of_heap h⟩ <;> (rw [Lib.cell_of_heap h]; rfl)
theorem Box5.lt (h : Box5 w b ty v0 v1 v2 v3 v4) : b < w.heap.size := box_lt h
theorem Box5.set (h : Box5 w b ty c0 c1 c2 c3 c4) : Box5 (set5 w b v0 v1 v2 v3 v4) b ty v0 v1 v2 v3 v4 := by
  unfold Box5 at h ⊢
  unfold Go.Proofs.YtecpldnjpapalaaDoor.set5
  have h0 : (w.setCell ⟨b, 0, none⟩ v0).heap[b]? = some (.cells #[v0, c1, c2, c3, c4] ty (0, 0)) := heap_setOne h 0 v0
  have h1 : ((w.setCell ⟨b, 0, none⟩ v0).setCell ⟨b, 1, none⟩ v1).heap[b]? = some (.cells #[v0, v1, c2, c3, c4] ty (0, 0)) := heap_setOne h0 1 v1
  have h2 : (((w.setCell ⟨b, 0, none⟩ v0).setCell ⟨b, 1, none⟩ v1).setCell ⟨b, 2, none⟩ v2).heap[b]? = some (.cells #[v0, v1, v2, c3, c4] ty (0, 0)) := heap_setOne h1 2 v2
  have h3 : ((((w.setCell ⟨b, 0, none⟩ v0).setCell ⟨b, 1, none⟩ v1).setCell ⟨b, 2, none⟩ v2).setCell ⟨b, 3, none⟩ v3).heap[b]? = some (.cells #[v0, v1, v2, v3, c4] ty (0, 0)) := heap_setOne h2 3 v3
  have h4 : (((((w.setCell ⟨b, 0, none⟩ v0).setCell ⟨b, 1, none⟩ v1).setCell ⟨b, 2, none⟩ v2).setCell ⟨b, 3, none⟩ v3).setCell ⟨b, 4, none⟩ v4).heap[b]? = some (.cells #[v0, v1, v2, v3, v4] ty (0, 0)) := heap_setOne h3 4 v4
  exact h4
theorem Box5.below {w w' : World} (h : Box5 w b ty v0 v1 v2 v3 v4) (hb : Below w.heap.size w w') : Box5 w' b ty v0 v1 v2 v3 v4 := (hb.block b (box_lt h)).trans h
theorem Box5.keep (h : Box5 a b ty v0 v1 v2 v3 v4) (hk : Keep a p R w) (hn : p < b) : Box5 w b ty v0 v1 v2 v3 v4 := (hk.block b (box_lt h) (by omega)).trans h
theorem set5_other {j : Nat} (hj : j ≠ b) : (set5 w b v0 v1 v2 v3 v4).heap[j]? = w.heap[j]? := by
  unfold set5
  rw [Below.heap_setCell _ _ _ _ hj, Below.heap_setCell _ _ _ _ hj, Below.heap_setCell _ _ _ _ hj, Below.heap_setCell _ _ _ _ hj, Below.heap_setCell _ _ _ _ hj]
theorem Keep.set5 (h : Keep a p R w) (hb : a.heap.size ≤ b) (hp : p < b) : Keep a p R (set5 w b v0 v1 v2 v3 v4) := by
  unfold Go.Proofs.YtecpldnjpapalaaDoor.set5
  exact (((((h.set hb hp _ _).set hb hp _ _).set hb hp _ _).set hb hp _ _).set hb hp _ _)
theorem below_set5 {B : Nat} (h : Below B a w) (hb : B ≤ b) : Below B a (set5 w b v0 v1 v2 v3 v4) := by
  unfold set5
  exact (((((h.setCell (p := ⟨b, 0, none⟩) hb _).setCell (p := ⟨b, 1, none⟩) hb _).setCell (p := ⟨b, 2, none⟩) hb _).setCell (p := ⟨b, 3, none⟩) hb _).setCell (p := ⟨b, 4, none⟩) hb _)
/-- A whole struct is stored into a box of one's own: that box, all else as it was. -/
theorem Box5.put (h : Box5 w b ty c0 c1 c2 c3 c4) (hk : Keep a p R w) (hb : a.heap.size ≤ b) (hp : p < b) (he : set5 w b v0 v1 v2 v3 v4 = w') : Box5 w' b ty v0 v1 v2 v3 v4 ∧ Keep a p R w' ∧ ∀ j, j ≠ b → w'.heap[j]? = w.heap[j]? := by
  subst he
  exact ⟨h.set, hk.set5 hb hp, fun j hj => set5_other hj⟩
theorem Box5.stored (h : Box5 w b ty c0 c1 c2 c3 c4) {B : Nat} (hk : Below B a w) (hb : B ≤ b) (he : set5 w b v0 v1 v2 v3 v4 = w') : Box5 w' b ty v0 v1 v2 v3 v4 ∧ Below B a w' ∧ ∀ j, j ≠ b → w'.heap[j]? = w.heap[j]? := by
  subst he
  exact ⟨h.set, below_set5 hk hb, fun j hj => set5_other hj⟩
end
/-- A box of 7 cells. -/
def Box7 (w : World) (b : Nat) (ty : TypeId) (v0 v1 v2 v3 v4 v5 v6 : Value) : Prop := w.heap[b]? = some (.cells #[v0, v1, v2, v3, v4, v5, v6] ty (0, 0))
def set7 (w : World) (b : Nat) (v0 v1 v2 v3 v4 v5 v6 : Value) : World := ((((((w.setCell ⟨b, 0, none⟩ v0).setCell ⟨b, 1, none⟩ v1).setCell ⟨b, 2, none⟩ v2).setCell ⟨b, 3, none⟩ v3).setCell ⟨b, 4, none⟩ v4).setCell ⟨b, 5, none⟩ v5).setCell ⟨b, 6, none⟩ v6
section
variable {w a w' : World} {b p : Nat} {ty : TypeId} {c0 c1 c2 c3 c4 c5 c6 v0 v1 v2 v3 v4 v5 v6 : Value} {R : List Tok}
theorem Box7.cells (h : Box7 w b ty v0 v1 v2 v3 v4 v5 v6) : w.cell? ⟨b, 0, none⟩ = some v0 ∧ w.cell? ⟨b, 1, none⟩ = some v1 ∧ w.cell? ⟨b, 2, none⟩ = some v2 ∧ w.cell? ⟨b, 3, none⟩ = some v3 ∧ w.cell? ⟨b, 4, none⟩ = some v4 ∧ w.cell? ⟨b, 5, none⟩ = some v5 ∧ w.cell? ⟨b, 6, none⟩ = some v6 ∧ ∀ i, w.frozen? ⟨b, i, none⟩ = false := by
  refine ⟨?_, ?_, ?_, ?_, ?_, ?_, ?_, Lib.frozen_of_heap h⟩ <;> (rw [Lib.cell_of_heap h]; rfl)
theorem Box7.lt (h : Box7 w b ty v0 v1 v2 v3 v4 v5 v6) : b < w.heap.size := box_lt h
theorem Box7.set (h : Box7 w b ty c0 c1 c2 c3 c4 c5 c6) : Box7 (set7 w b v0 v1 v2 v3 v4 v5 v6) b ty v0 v1 v2 v3 v4 v5 v6 := by
  unfold Box7 at h ⊢
  unfold Go.Proofs.YtecpldnjpapalaaDoor.set7
  have h0 : (w.setCell ⟨b, 0, none⟩ v0).heap[b]? = some (.cells #[v0, c1, c2, c3, c4, c5, c6] ty (0, 0)) := heap_setOne h 0 v0
  have h1 : ((w.setCell ⟨b, 0, none⟩ v0).setCell ⟨b, 1, none⟩ v1).heap[b]? = some (.cells #[v0, v1, c2, c3, c4, c5, c6] ty (0, 0)) := heap_setOne h0 1 v1
  have h2 : (((w.setCell ⟨b, 0, none⟩ v0).setCell ⟨b, 1, none⟩ v1).setCell ⟨b, 2, none⟩ v2).heap[b]? = some (.cells #[v0, v1, v2, c3, c4, c5, c6] ty (0, 0)) := heap_setOne h1 2 v2
  have h3 : ((((w.setCell ⟨b, 0, none⟩ v0).setCell ⟨b, 1, none⟩ v1).setCell ⟨b, 2, none⟩ v2).setCell ⟨b, 3, none⟩ v3).heap[b]? = some (.cells #[v0, v1, v2, v3, c4, c5, c6] ty (0, 0)) := heap_setOne h2 3 v3
  have h4 : (((((w.setCell ⟨b, 0, none⟩ v0).setCell ⟨b, 1, none⟩ v1).setCell ⟨b, 2, none⟩ v2).setCell ⟨b, 3, none⟩ v3).setCell ⟨b, 4, none⟩ v4).heap[b]? = some (.cells #[v0, v1, v2, v3, v4, c5, c6] ty (0, 0)) := heap_setOne h3 4 v4
  have h5 : ((((((w.setCell ⟨b, 0, none⟩ v0).setCell ⟨b, 1, none⟩ v1).setCell ⟨b, 2, none⟩ v2).setCell ⟨b, 3, none⟩ v3).setCell ⟨b, 4, none⟩ v4).setCell ⟨b, 5, none⟩ v5).heap[b]? = some (.cells #[v0, v1, v2, v3, v4, v5, c6] ty (0, 0)) := heap_setOne h4 5 v5
  have h6 : (((((((w.setCell ⟨b, 0, none⟩ v0).setCell ⟨b, 1, none⟩ v1).setCell ⟨b, 2, none⟩ v2).setCell ⟨b, 3, none⟩ v3).setCell ⟨b, 4, none⟩ v4).setCell ⟨b, 5, none⟩ v5).setCell ⟨b, 6, none⟩ v6).heap[b]? = some (.cells #[v0, v1, v2, v3, v4, v5, v6] ty (0, 0)) := heap_setOne h5 6 v6
  exact h6
theorem Box7.below {w w' : World} (h : Box7 w b ty v0 v1 v2 v3 v4 v5 v6) (hb : Below w.heap.size w w') : Box7 w' b ty v0 v1 v2 v3 v4 v5 v6 := (hb.block b (box_lt h)).trans h
theorem Box7.keep (h : Box7 a b ty v0 v1 v2 v3 v4 v5 v6) (hk : Keep a p R w) (hn : p < b) : Box7 w b ty v0 v1 v2 v3 v4 v5 v6 := (hk.block b (box_lt h) (by omega)).trans h
theorem set7_other {j : Nat} (hj : j ≠ b) : (set7 w b v0 v1 v2 v3 v4 v5 v6).heap[j]? = w.heap[j]? := by
  unfold set7
  rw [Below.heap_setCell _ _ _ _ hj, Below.heap_setCell _ _ _ _ hj, Below.heap_setCell _ _ _ _ hj, Below.heap_setCell _ _ _ _ hj, Below.heap_setCell _ _ _ _ hj, Below.heap_setCell _ _ _ _ hj, Below.heap_setCell _ _ _ _ hj]
theorem Keep.set7 (h : Keep a p R w) (hb : a.heap.size ≤ b) (hp : p < b) : Keep a p R (set7 w b v0 v1 v2 v3 v4 v5 v6) := by
  unfold Go.Proofs.YtecpldnjpapalaaDoor.set7
  exact (((((((h.set hb hp _ _).set hb hp _ _).set hb hp _ _).set hb hp _ _).set hb hp _ _).set hb hp _ _).set hb hp _ _)
theorem below_set7 {B : Nat} (h : Below B a w) (hb : B ≤ b) : Below B a (set7 w b v0 v1 v2 v3 v4 v5 v6) := by
  unfold set7
  exact (((((((h.setCell (p := ⟨b, 0, none⟩) hb _).setCell (p := ⟨b, 1, none⟩) hb _).setCell (p := ⟨b, 2, none⟩) hb _).setCell (p := ⟨b, 3, none⟩) hb _).setCell (p := ⟨b, 4, none⟩) hb _).setCell (p := ⟨b, 5, none⟩) hb _).setCell (p := ⟨b, 6, none⟩) hb _)
/-- A whole struct is stored into a box of one's own: that box, all else as it was. -/
theorem Box7.put (h : Box7 w b ty c0 c1 c2 c3 c4 c5 c6) (hk : Keep a p R w) (hb : a.heap.size ≤ b) (hp : p < b) (he : set7 w b v0 v1 v2 v3 v4 v5 v6 = w') : Box7 w' b ty v0 v1 v2 v3 v4 v5 v6 ∧ Keep a p R w' ∧ ∀ j, j ≠ b → w'.heap[j]? = w.heap[j]? := by
  subst he
  exact ⟨h.set, hk.set7 hb hp, fun j hj => set7_other hj⟩
theorem Box7.stored (h : Box7 w b ty c0 c1 c2 c3 c4 c5 c6) {B : Nat} (hk : Below B a w) (hb : B ≤ b) (he : set7 w b v0 v1 v2 v3 v4 v5 v6 = w') : Box7 w' b ty v0 v1 v2 v3 v4 v5 v6 ∧ Below B a w' ∧ ∀ j, j ≠ b → w'.heap[j]? = w.heap[j]? := by
  subst he
  exact ⟨h.set, below_set7 hk hb, fun j hj => set7_other hj⟩
end
/-- A box of 8 cells. -/
def Box8 (w : World) (b : Nat) (ty : TypeId) (v0 v1 v2 v3 v4 v5 v6 v7 : Value) : Prop := w.heap[b]? = some (.cells #[v0, v1, v2, v3, v4, v5, v6, v7] ty (0, 0))
def set8 (w : World) (b : Nat) (v0 v1 v2 v3 v4 v5 v6 v7 : Value) : World := (((((((w.setCell ⟨b, 0, none⟩ v0).setCell ⟨b, 1, none⟩ v1).setCell ⟨b, 2, none⟩ v2).setCell ⟨b, 3, none⟩ v3).setCell ⟨b, 4, none⟩ v4).setCell ⟨b, 5, none⟩ v5).setCell ⟨b, 6, none⟩ v6).setCell ⟨b, 7, none⟩ v7
section
variable {w a w' : World} {b p : Nat} {ty : TypeId} {c0 c1 c2 c3 c4 c5 c6 c7 v0 v1 v2 v3 v4 v5 v6 v7 : Value} {R : List Tok}
theorem Box8.cells (h : Box8 w b ty v0 v1 v2 v3 v4 v5 v6 v7) : w.cell? ⟨b, 0, none⟩ = some v0 ∧ w.cell? ⟨b, 1, none⟩ = some v1 ∧ w.cell? ⟨b, 2, none⟩ = some v2 ∧ w.cell? ⟨b, 3, none⟩ = some v3 ∧ w.cell? ⟨b, 4, none⟩ = some v4 ∧ w.cell? ⟨b, 5, none⟩ = some v5 ∧ w.cell? ⟨b, 6, none⟩ = some v6 ∧ w.cell? ⟨b, 7, none⟩ = some v7 ∧ ∀ i, w.frozen? ⟨b, i, none⟩ = false := by
  refine ⟨?_, ?_, ?_, ?_, ?_, ?_, ?_, ?_, Lib.frozen_of_heap h⟩ <;> (rw [Lib.cell_of_heap h]; rfl)
theorem Box8.lt (h : Box8 w b ty v0 v1 v2 v3 v4 v5 v6 v7) : b < w.heap.size := box_lt h
theorem Box8.set (h : Box8 w b ty c0 c1 c2 c3 c4 c5 c6 c7) : Box8 (set8 w b v0 v1 v2 v3 v4 v5 v6 v7) b ty v0 v1 v2 v3 v4 v5 v6 v7 := by
  unfold Box8 at h ⊢
  unfold Go.Proofs.YtecpldnjpapalaaDoor.set8
  have h0 : (w.setCell ⟨b, 0, none⟩ v0).heap[b]? = some (.cells #[v0, c1, c2, c3, c4, c5, c6, c7] ty (0, 0)) := heap_setOne h 0 v0
  have h1 : ((w.setCell ⟨b, 0, none⟩ v0).setCell ⟨b, 1, none⟩ v1).heap[b]? = some (.cells #[v0, v1, c2, c3, c4, c5, c6, c7] ty (0, 0)) := heap_setOne h0 1 v1
  have h2 : (((w.setCell ⟨b, 0, none⟩ v0).setCell ⟨b, 1, none⟩ v1).setCell ⟨b, 2, none⟩ v2).heap[b]? = some (.cells #[v0, v1, v2, c3, c4, c5, c6, c7] ty (0, 0)) := heap_setOne h1 2 v2
  have h3 : ((((w.setCell ⟨b, 0, none⟩ v0).setCell ⟨b, 1, none⟩ v1).setCell ⟨b, 2, none⟩ v2).setCell ⟨b, 3, none⟩ v3).heap[b]? = some (.cells #[v0, v1, v2, v3, c4, c5, c6, c7] ty (0, 0)) := heap_setOne h2 3 v3
  have h4 : (((((w.setCell ⟨b, 0, none⟩ v0).setCell ⟨b, 1, none⟩ v1).setCell ⟨b, 2, none⟩ v2).setCell ⟨b, 3, none⟩ v3).setCell ⟨b, 4, none⟩ v4).heap[b]? = some (.cells #[v0, v1, v2, v3, v4, c5, c6, c7] ty (0, 0)) := heap_setOne h3 4 v4
  have h5 : ((((((w.setCell ⟨b, 0, none⟩ v0).setCell ⟨b, 1, none⟩ v1).setCell ⟨b, 2, none⟩ v2).setCell ⟨b, 3, none⟩ v3).setCell ⟨b, 4, none⟩ v4).setCell ⟨b, 5, none⟩ v5).heap[b]? = some (.cells #[v0, v1, v2, v3, v4, v5, c6, c7] ty (0, 0)) := heap_setOne h4 5 v5
  have h6 : (((((((w.setCell ⟨b, 0, none⟩ v0).setCell ⟨b, 1, none⟩ v1).setCell ⟨b, 2, none⟩ v2).setCell ⟨b, 3, none⟩ v3).setCell ⟨b, 4, none⟩ v4).setCell ⟨b, 5, none⟩ v5).setCell ⟨b, 6, none⟩ v6).heap[b]? = some (.cells #[v0, v1, v2, v3, v4, v5, v6, c7] ty (0, 0)) := heap_setOne h5 6 v6
  have h7 : ((((((((w.setCell ⟨b, 0, none⟩ v0).setCell ⟨b, 1, none⟩ v1).setCell ⟨b, 2, none⟩ v2).setCell ⟨b, 3, none⟩ v3).setCell ⟨b, 4, none⟩ v4).setCell ⟨b, 5, none⟩ v5).setCell ⟨b, 6, none⟩ v6).setCell ⟨b, 7, none⟩ v7).heap[b]? = some (.cells #[v0, v1, v2, v3, v4, v5, v6, v7] ty (0, 0)) := heap_setOne h6 7 v7
  exact h7
theorem Box8.below {w w' : World} (h : Box8 w b ty v0 v1 v2 v3 v4 v5 v6 v7) (hb : Below w.heap.size w w') : Box8 w' b ty v0 v1 v2 v3 v4 v5 v6 v7 := (hb.block b (box_lt h)).trans h
theorem Box8.keep (h : Box8 a b ty v0 v1 v2 v3 v4 v5 v6 v7) (hk : Keep a p R w) (hn : p < b) : Box8 w b ty v0 v1 v2 v3 v4 v5 v6 v7 := (hk.block b (box_lt h) (by omega)).trans h
theorem set8_other {j : Nat} (hj : j ≠ b) : (set8 w b v0 v1 v2 v3 v4 v5 v6 v7).heap[j]? = w.heap[j]? := by
  unfold set8
  rw [Below.heap_setCell _ _ _ _ hj, Below.heap_setCell _ _ _ _ hj, Below.heap_setCell _ _ _ _ hj, Below.heap_setCell _ _ _ _ hj, Below.heap_setCell _ _ _ _ hj, Below.heap_setCell _ _ _ _ hj, Below.heap_setCell _ _ _ _ hj, Below.heap_setCell _ _ _ _ hj]
theorem Keep.set8 (h : Keep a p R w) (hb : a.heap.size ≤ b) (hp : p < b) : Keep a p R (set8 w b v0 v1 v2 v3 v4 v5 v6 v7) := by
  unfold Go.Proofs.YtecpldnjpapalaaDoor.set8
  exact ((((((((h.set hb hp _ _).set hb hp _ _).set hb hp _ _).set hb hp _ _).set hb hp _ _).set hb hp _ _).set hb hp _ _).set hb hp _ _)
theorem below_set8 {B : Nat} (h : Below B a w) (hb : B ≤ b) : Below B a (set8 w b v0 v1 v2 v3 v4 v5 v6 v7) := by
  unfold set8
  exact ((((((((h.setCell (p := ⟨b, 0, none⟩) hb _).setCell (p := ⟨b, 1, none⟩) hb _).setCell (p := ⟨b, 2, none⟩) hb _).setCell (p := ⟨b, 3, none⟩) hb _).setCell (p := ⟨b, 4, none⟩) hb _).setCell (p := ⟨b, 5, none⟩) hb _).setCell (p := ⟨b, 6, none⟩) hb _).setCell (p := ⟨b, 7, none⟩) hb _)
/-- A whole struct is stored into a box of one's own: that box, all else as it was. -/
theorem Box8.put (h : Box8 w b ty c0 c1 c2 c3 c4 c5 c6 c7) (hk : Keep a p R w) (hb : a.heap.size ≤ b) (hp : p < b) (he : set8 w b v0 v1 v2 v3 v4 v5 v6 v7 = w') : Box8 w' b ty v0 v1 v2 v3 v4 v5 v6 v7 ∧ Keep a p R w' ∧ ∀ j, j ≠ b → w'.heap[j]? = w.heap[j]? := by
  subst he
  exact ⟨h.set, hk.set8 hb hp, fun j hj => set8_other hj⟩
theorem Box8.stored (h : Box8 w b ty c0 c1 c2 c3 c4 c5 c6 c7) {B : Nat} (hk : Below B a w) (hb : B ≤ b) (he : set8 w b v0 v1 v2 v3 v4 v5 v6 v7 = w') : Box8 w' b ty v0 v1 v2 v3 v4 v5 v6 v7 ∧ Below B a w' ∧ ∀ j, j ≠ b → w'.heap[j]? = w.heap[j]? := by
  subst he
  exact ⟨h.set, below_set8 hk hb, fun j hj => set8_other hj⟩
end
end
end Go.Proofs.YtecpldnjpapalaaDoor
