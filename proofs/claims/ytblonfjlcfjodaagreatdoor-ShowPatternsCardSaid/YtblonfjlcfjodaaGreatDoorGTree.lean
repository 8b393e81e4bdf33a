/-
  Plain facts: which tree a row of tokens is, by the grammar of ex.
-/
import Derived.Test.YtblonfjlcfjodaaGreatDoorGLexB
import Derived.Deep.RegionWith
namespace Go.Proofs.YtblonfjlcfjodaaGreatDoor
set_option linter.unusedSimpArgs false
set_option linter.unusedVariables false
set_option maxRecDepth 100000
set_option maxHeartbeats 1000000
section
open Go.RowKit
abbrev Tok:=TK×Nat
structure Hd where
 kind:Int
 pos:Int
 name:List UInt8
 n:Int
 s:List UInt8
 labels:List (List UInt8)
inductive Nd where
 | mk (h:Hd) (args:List Nd) (arms:List (Nd×Nd))
def Nd.hd:Nd->Hd | .mk h _ _=>h
def Nd.args:Nd->List Nd | .mk _ l _=>l
def Nd.arms:Nd->List (Nd×Nd) | .mk _ _ l=>l
inductive PR where
 | ok (x:Nd) (rest:List Tok)
 | bad (rest:List Tok)
 | out
def sLet:List UInt8:=[108,101,116]
def sRec:List UInt8:=[114,101,99]
def sIn:List UInt8:=[105,110]
def sFun:List UInt8:=[102,117,110]
def sMatch:List UInt8:=[109,97,116,99,104]
def sWith:List UInt8:=[119,105,116,104]
def sEnd:List UInt8:=[101,110,100]
def sIf:List UInt8:=[105,102]
def sThen:List UInt8:=[116,104,101,110]
def sElse:List UInt8:=[101,108,115,101]
def sTrue:List UInt8:=[116,114,117,101]
def sFalse:List UInt8:=[102,97,108,115,101]
def sRaise:List UInt8:=[114,97,105,115,101]
def sTry:List UInt8:=[116,114,121]
def sNot:List UInt8:=[110,111,116]
def sRef:List UInt8:=[114,101,102]
def sArray:List UInt8:=[97,114,114,97,121]
def sGet:List UInt8:=[103,101,116]
def sSet:List UInt8:=[115,101,116]
def sLen:List UInt8:=[108,101,110]
def sSize:List UInt8:=[115,105,122,101]
def sByte:List UInt8:=[98,121,116,101]
def sCat:List UInt8:=[99,97,116]
def sGetc:List UInt8:=[103,101,116,99]
def sPutc:List UInt8:=[112,117,116,99]
def sArrow:List UInt8:=[45,62]
def sAssign:List UInt8:=[58,61]
def sAnd:List UInt8:=[38,38]
def sOr:List UInt8:=[124,124]
def sOpen:List UInt8:=[40]
def sShut:List UInt8:=[41]
def sCurl:List UInt8:=[123]
def sUncurl:List UInt8:=[125]
def sEq:List UInt8:=[61]
def sSemi:List UInt8:=[59]
def sComma:List UInt8:=[44]
def sDot:List UInt8:=[46]
def sBar:List UInt8:=[124]
def sPlus:List UInt8:=[43]
def sMinus:List UInt8:=[45]
def sTimes:List UInt8:=[42]
def sOver:List UInt8:=[47]
def sRem:List UInt8:=[37]
def sLess:List UInt8:=[60]
def sBang:List UInt8:=[33]
def isOne (l:List (List UInt8)) (t:Tok):Bool:=(decide (t.1.kind=7)||decide (t.1.kind=6))&&l.contains t.1.text
def isKind (k:Int) (t:Tok):Bool:=decide (t.1.kind=k)
def opOf (x:List UInt8):Int :=
 if x=sAssign then 12 else if x=sEq then 7 else if x=sLess then 8 else if x=sPlus then 1 else if x=sMinus then 2 else if x=sTimes then 3 else if x=sOver then 4 else if x=sRem then 5 else if x=sNot then 9 else if x=sBang then 11 else if x=sRef then 10 else if x=sLen then 16 else if x=sSize then 17 else if x=sGetc then 20 else if x=sPutc then 21 else if x=sArray then 13 else if x=sGet then 14 else if x=sByte then 18 else if x=sCat then 19 else if x=sSet then 15 else 0
def nodeN (k:Int) (t:Tok) (x:List UInt8) (n:Int) (l:List Nd):Nd:=.mk ⟨k,t.2,x,n,[],[]⟩ l []
def node (k:Int) (t:Tok) (l:List Nd):Nd:=nodeN k t [] (if k=19 then opOf t.1.text else 0) l
def named (k:Int) (t:Tok) (x:List UInt8) (l:List Nd):Nd:=nodeN k t x (if k=19 then opOf t.1.text else 0) l
def bag (ls:List (List UInt8)) (l:List Nd) (arms:List (Nd×Nd)):Nd:=.mk ⟨0,0,[],0,[],ls⟩ l arms
def isTruth (t:Tok):Bool:=isOne [sTrue] t||isOne [sFalse] t
def isLeaf (t:Tok):Bool:=isKind 1 t||isKind 2 t||isKind 4 t||isKind 5 t||isTruth t
def leafE (t:Tok):Nd :=
 if t.1.kind=1 then .mk ⟨1,t.2,t.1.text,0,[],[]⟩ [] [] else if t.1.kind=2 then .mk ⟨6,t.2,t.1.text,0,[],[]⟩ [] [] else if t.1.kind=4 then .mk ⟨2,t.2,[],t.1.n,[],[]⟩ [] [] else if t.1.kind=5 then .mk ⟨3,t.2,[],0,t.1.text,[]⟩ [] [] else .mk ⟨4,t.2,[],if isOne [sTrue] t=true then 1 else 0,[],[]⟩ [] []
def leafP (t:Tok):Nd :=
 if t.1.kind=1 then(if t.1.text=[95] then .mk ⟨1,t.2,[],0,[],[]⟩ [] [] else .mk ⟨2,t.2,t.1.text,0,[],[]⟩ [] []) else if t.1.kind=2 then .mk ⟨7,t.2,t.1.text,0,[],[]⟩ [] [] else if t.1.kind=4 then .mk ⟨3,t.2,[],t.1.n,[],[]⟩ [] [] else if t.1.kind=5 then .mk ⟨4,t.2,[],0,t.1.text,[]⟩ [] [] else .mk ⟨5,t.2,[],if isOne [sTrue] t=true then 1 else 0,[],[]⟩ [] []
def begins (t:Tok):Bool:=isLeaf t||isOne [sOpen,sCurl,sBang] t
def signsOf:Nat->List (List UInt8)
 | 0=>[sOr]
 | 1=>[sAnd]
 | 2=>[sEq,sLess]
 | 3=>[sPlus,sMinus]
 | _=>[sTimes,sOver,sRem]
def word1:List (List UInt8):=[sRef,sLen,sSize,sGetc,sPutc]
def word2:List (List UInt8):=[sArray,sGet,sByte,sCat]
def word3:List (List UInt8):=[sSet]
inductive Md where
 | text | seq | item | fn | asg
 | letb (t:Tok) | cases (k:Int) (t:Tok) | choice (t:Tok)
 | arms (l:List (Nd×Nd))
 | level (n:Nat) | lvl (n:Nat) (left:Nd)
 | unary | app | apps (e:Nd) | posts (n:Nat) (l:List Nd)
 | post | dots (e:Nd) | atom | braces (t:Tok)
 | fields (b:Bool) | field (b:Bool) (ls:List (List UInt8)) (l:List Nd)
 | pat | patom
inductive PM where
 | ret (x:Nd)
 | fail
 | call (m:Md) (k:Nd->PM)
 | acc (p:Tok->Bool) (yes:Tok->PM) (no:PM)
 | look (p:Tok->Bool) (yes no:PM)
 | look2 (p q:Tok->Bool) (yes no:PM)
def second (q:Tok->Bool):List Tok->Bool
 | u::_=>q u
 | []=>false
def exec (rec:Md->List Tok->PR):PM->List Tok->PR
 | .ret x,T=>.ok x T
 | .fail,T=>.bad T
 | .call m k,T=>match rec m T with
  | .ok x R=>exec rec (k x) R
  | .bad R=>.bad R
  | .out=>.out
 | .acc p yes no,T=>match T with
  | []=>.out
  | t::R=>if p t=true then exec rec (yes t) R else exec rec no (t::R)
 | .look p yes no,T=>match T with
  | []=>.out
  | t::R=>if p t=true then exec rec yes (t::R) else exec rec no (t::R)
 | .look2 p q yes no,T=>match T with
  | []=>.out
  | t::R=>if (p t&&second q R)=true then exec rec yes (t::R) else exec rec no (t::R)
def need (l:List (List UInt8)) (k:Tok->PM):PM:=.acc (isOne l) k .fail
def name (k:List UInt8->PM):PM:=.acc (isKind 1) (fun t=>k t.1.text) .fail
def bound (k:Int) (m:Md) (t:Tok):PM:=name fun x=>need [sEq] fun _=>.call m fun a=>need [sIn] fun _=>.call .seq fun b=>.ret (named k t x [a,b])
def recordB (t:Tok):PM:=.call (.fields true) fun r=>.ret (.mk ⟨12,t.2,[],0,[],r.hd.labels⟩ r.args [])
def withB (t:Tok):PM:=.call .seq fun o=>need [sWith] fun _=>name fun x=>need [sEq] fun _=>.call .seq fun v=>need [sUncurl] fun _=>.ret (named 13 t x [o,v])
def step:Md->PM
 | .text=>.call .seq fun e=>.look (isKind 0) (.ret e) .fail
 | .seq=>.call .item fun a=>.acc (isOne [sSemi]) (fun t=>.call .seq fun b=>.ret (node 20 t [a,b])) (.ret a)
 | .item=>.look (isOne [sFun]) (.call .fn .ret) (.acc (isOne [sLet,sMatch,sTry,sIf,sRaise]) (fun t =>
  if t.1.text=sLet then .call (.letb t) .ret
  else if t.1.text=sMatch then .call (.cases 16 t) .ret
  else if t.1.text=sTry then .call (.cases 17 t) .ret
  else if t.1.text=sIf then .call (.choice t) .ret
  else .call .post fun e=>.ret (node 18 t [e])) (.call .asg .ret))
 | .fn=>need [sFun] fun t=>name fun x=>need [sArrow] fun _=>.call .seq fun e=>.ret (named 7 t x [e])
 | .letb t=>.acc (isOne [sRec]) (fun _=>bound 10 .fn t) (bound 9 .seq t)
 | .cases k t=>.call .seq fun e=>need [sWith] fun _=>.call (.arms []) fun r=>.ret (.mk ⟨k,t.2,[],0,[],[]⟩ [e] r.arms)
 | .arms l=>.call .pat fun p=>need [sArrow] fun _=>.call .seq fun b=>need [sBar,sEnd] fun t=>if t.1.text=sEnd then .ret (bag [] [] (l++[(p,b)])) else .call (.arms (l++[(p,b)])) .ret
 | .choice t=>.call .seq fun a=>need [sThen] fun _=>.call .item fun b=>need [sElse] fun _=>.call .item fun c=>.ret (node 11 t [a,b,c])
 | .asg=>.call (.level 0) fun l=>.acc (isOne [sAssign]) (fun t=>.call .item fun r=>.ret (node 19 t [l,r])) (.ret l)
 | .level n=>if 5<=n then .call .unary .ret else .call (.level (n+1)) fun l=>.call (.lvl n l) .ret
 | .lvl n left=>.acc (isOne (signsOf n)) (fun t =>
  if n=2 then .call (.level (n+1)) fun r=>.ret (node 19 t [left,r])
  else if n<2 then .call (.level n) fun r=>.ret (node (if n=0 then 22 else 21) t [left,r])
  else .call (.level (n+1)) fun r=>.call (.lvl n (node 19 t [left,r])) .ret) (.ret left)
 | .unary=>.acc (isOne [sMinus,sNot]) (fun t=>.call .unary fun e=>.ret (nodeN 19 t [] (if t.1.text=sMinus then 6 else opOf t.1.text) [e])) (.call .app .ret)
 | .app=>.acc (isKind 3) (fun t=>.call .post fun e=>.ret (named 15 t t.1.text [e])) (
  .acc (isOne word1) (fun t=>.call (.posts 1 []) fun r=>.ret (node 19 t r.args)) (
  .acc (isOne word2) (fun t=>.call (.posts 2 []) fun r=>.ret (node 19 t r.args)) (
  .acc (isOne word3) (fun t=>.call (.posts 3 []) fun r=>.ret (node 19 t r.args)) (
  .call .post fun e=>.call (.apps e) .ret))))
 | .apps e=>.look begins (.call .post fun b=>.call (.apps (.mk ⟨8,e.hd.pos,[],0,[],[]⟩ [e,b] [])) .ret) (.ret e)
 | .posts n l=>if n=0 then .ret (bag [] l []) else .call .post fun x=>.call (.posts (n-1) (l++[x])) .ret
 | .post=>.acc (isOne [sBang]) (fun t=>.call .post fun e=>.ret (node 19 t [e])) (.call .atom fun e=>.call (.dots e) .ret)
 | .dots e=>.acc (isOne [sDot]) (fun t=>name fun x=>.call (.dots (named 14 t x [e])) .ret) (.ret e)
 | .atom=>.acc isLeaf (fun t=>.ret (leafE t)) (need [sOpen,sCurl] fun t =>
  if t.1.text=sCurl then .call (.braces t) .ret
  else .acc (isOne [sShut]) (fun _=>.ret (node 5 t [])) (.call .seq fun e=>need [sShut] fun _=>.ret e))
 | .braces t=>.look (isOne [sUncurl]) (recordB t) (.look2 (isKind 1) (isOne [sEq]) (recordB t) (withB t))
 | .fields b=>.acc (isOne [sUncurl]) (fun _=>.ret (bag [] [] [])) (.call (.field b [] []) .ret)
 | .field b ls l=>name fun x=>need [sEq] fun _=>.call (if b=true then .seq else .pat) fun v=>need [sComma,sUncurl] fun t =>
  if t.1.text=sUncurl then .ret (bag (ls++[x]) (l++[v]) []) else .call (.field b (ls++[x]) (l++[v])) .ret
 | .pat=>.acc (isKind 3) (fun t=>.call .patom fun p=>.ret (nodeN 8 t t.1.text 0 [p])) (.call .patom .ret)
 | .patom=>.acc isLeaf (fun t=>.ret (leafP t)) (need [sMinus,sOpen,sCurl] fun t =>
  if t.1.text=sMinus then .acc (isKind 4) (fun u=>.ret (nodeN 3 t [] (-u.1.n) [])) .fail
  else if t.1.text=sCurl then .call (.fields false) fun r=>.ret (.mk ⟨9,t.2,[],0,[],r.hd.labels⟩ r.args [])
  else .acc (isOne [sShut]) (fun _=>.ret (nodeN 6 t [] 0 [])) (.call .pat fun p=>need [sShut] fun _=>.ret p))
def run:Nat->Md->List Tok->PR
 | 0,_,_=>.out
 | f+1,m,T=>exec (run f) (step m) T
theorem zq (f:Nat) (m:Md) (T:List Tok):run (f+1) m T=exec (run f) (step m) T:=rfl
def NoEnd (X:List Tok):Prop:=∀ t∈X,t.1.kind≠0
theorem NoEnd.nil:NoEnd []:=fun _ h=>by cases h
theorem NoEnd.cons {t:Tok} {X:List Tok} (h:t.1.kind≠0) (hx:NoEnd X):NoEnd (t::X):=fun u hu=>by
 rcases List.mem_cons.1 hu with rfl | hu
 . exact h
 . exact hx u hu
theorem NoEnd.head {t:Tok} {X:List Tok} (h:NoEnd (t::X)):t.1.kind≠0:=h t (by simp)
theorem NoEnd.tail {t:Tok} {X:List Tok} (h:NoEnd (t::X)):NoEnd X:=fun u hu=>h u (by simp [hu])
theorem NoEnd.append {X Y:List Tok} (h:NoEnd X) (h':NoEnd Y):NoEnd (X++Y):=fun u hu=>by
 rcases List.mem_append.1 hu with hu | hu
 . exact h u hu
 . exact h' u hu
def Ends (p:Tok->Bool):Prop:=∀ t,p t=true->t.1.kind≠0
theorem yE (l:List (List UInt8)):Ends (isOne l):=fun t h=>by
 unfold isOne at h;simp only[Bool.and_eq_true,Bool.or_eq_true,decide_eq_true_eq] at h;omega
theorem xF {k:Int} (hk:k≠0):Ends (isKind k):=fun t h=>by
 unfold isKind at h;rw[of_decide_eq_true h];exact hk
theorem wD:Ends isLeaf:=fun t h=>by
 unfold isLeaf at h;simp only[Bool.or_eq_true] at h;rcases h with (((h | h) | h) | h) | h
 . exact xF (by decide) t h
 . exact xF (by decide) t h
 . exact xF (by decide) t h
 . exact xF (by decide) t h
 . unfold isTruth at h;rcases (Bool.or_eq_true _ _).mp h with h | h
   . exact yE _ t h
   . exact yE _ t h
theorem sw:Ends begins:=fun t h=>by
 unfold begins at h;rcases (Bool.or_eq_true _ _).mp h with h | h
 . exact wD t h
 . exact yE _ t h
def Md.eats:Md->Bool
 | .lvl _ _ | .apps _ | .posts _ _ | .dots _=>false
 | _=>true
def PM.fine:Bool->Bool->PM->Prop
 | e,c,.ret _=>e=true->c=true
 | _,_,.fail=>True
 | e,c,.call m k=>∀ x,PM.fine e (c||m.eats) (k x)
 | e,c,.acc p yes no=>Ends p/\(∀ t,PM.fine e true (yes t))/\PM.fine e c no
 | e,c,.look _ yes no=>PM.fine e c yes/\PM.fine e c no
 | e,c,.look2 p q yes no=>Ends p/\Ends q/\PM.fine e c yes/\PM.fine e c no
theorem fine_ite {e c:Bool} {p:Prop} [Decidable p] {a b:PM} (ha:a.fine e c) (hb:b.fine e c):(if p then a else b).fine e c:=by
 split
 . exact ha
 . exact hb
theorem za5 (m:Md):(step m).fine m.eats false:=by
 cases m <;> simp only[step,need,name,bound,recordB,withB,Md.eats]
 all_goals repeat' first | exact trivial | exact fun _=>rfl | exact fun h=>h | exact yE _ | exact wD | exact xF (by decide) | exact sw | apply fine_ite | constructor | intro _
def Took (e:Bool) (T:List Tok):PR->Prop
 | .ok _ R=>∃ P,T=P++R/\NoEnd P/\(e=true->P≠[])
 | .bad R=>∃ P,T=P++R/\NoEnd P
 | .out=>True
theorem Took.cons {e:Bool} {t:Tok} {T:List Tok} {r:PR} (ht:t.1.kind≠0) (e':Bool) (h:Took e T r):Took e' (t::T) r:=by
 cases r with
 | ok x R =>
  obtain⟨P,h1,h2,_⟩:=h;exact⟨t::P,by rw[h1];rfl,h2.cons ht,fun _ h=>by cases h⟩
 | bad R =>
  obtain⟨P,h1,h2⟩:=h;exact⟨t::P,by rw[h1];rfl,h2.cons ht⟩
 | out=>trivial
theorem xo {rec:Md->List Tok->PR} (hr:∀ m T,Took m.eats T (rec m T)):∀(pm:PM) (e c:Bool) (T:List Tok),pm.fine e c->Took (e&&!c) T (exec rec pm T)
 | .ret x,e,c,T,h=>⟨[],rfl,NoEnd.nil,fun h'=>by
  simp only[PM.fine] at h;simp only[Bool.and_eq_true,Bool.not_eq_true'] at h';rw[h h'.1] at h';cases h'.2⟩
 | .fail,_,_,T,_=>⟨[],rfl,NoEnd.nil⟩
 | .call m k,e,c,T,h=>by
  have h1:=hr m T;rw[exec];cases hm:rec m T with
  | ok x R =>
   rw[hm] at h1;obtain⟨P,hT,hP,hne⟩:=h1;have h2:=xo hr (k x) e (c||m.eats) R (h x);show Took _ T (exec rec (k x) R);rw[hT];cases hx:exec rec (k x) R with
   | ok y S =>
    rw[hx] at h2;obtain⟨Q,hQ,hq,hqn⟩:=h2;refine⟨P++Q,by rw[hQ,List.append_assoc],hP.append hq,fun h' hn=>?_⟩;rw[List.append_eq_nil_iff] at hn;cases he:m.eats with
    | true=>exact hne he hn.1
    | false =>
     rw[he,Bool.or_false] at hqn;exact hqn h' hn.2
   | bad S =>
    rw[hx] at h2;obtain⟨Q,hQ,hq⟩:=h2;exact⟨P++Q,by rw[hQ,List.append_assoc],hP.append hq⟩
   | out=>trivial
  | bad R=>rw[hm] at h1;exact h1
  | out=>trivial
 | .acc p yes no,e,c,[],h=>trivial
 | .acc p yes no,e,c,t::R,h=>by
  rw[exec]
  split
  . rename_i hp;exact(xo hr (yes t) e true R (h.2.1 t)).cons (h.1 t hp) _
  . exact xo hr no e c (t::R) h.2.2
 | .look p yes no,e,c,[],h=>trivial
 | .look p yes no,e,c,t::R,h=>by
  rw[exec]
  split
  . exact xo hr yes e c (t::R) h.1
  . exact xo hr no e c (t::R) h.2
 | .look2 p q yes no,e,c,[],h=>trivial
 | .look2 p q yes no,e,c,t::R,h=>by
  rw[exec]
  split
  . exact xo hr yes e c (t::R) h.2.2.1
  . exact xo hr no e c (t::R) h.2.2.2
theorem xd:∀(f:Nat) (m:Md) (T:List Tok),Took m.eats T (run f m T)
 | 0,_,_=>trivial
 | f+1,m,T=>by
  have h:=xo (xd f) (step m) m.eats false T (za5 m)
  rwa [Bool.not_false,Bool.and_true] at h
def Md.rank:Md->Nat
 | .text=>15 | .seq=>14 | .item=>13 | .fn=>0 | .asg=>12
 | .letb _=>0 | .cases _ _=>15 | .choice _=>15
 | .arms _=>15
 | .level n=>6+(5-n) | .lvl _ _=>0
 | .unary=>5 | .app=>4 | .apps _=>3 | .posts _ _=>4
 | .post=>2 | .dots _=>0 | .atom=>1 | .braces _=>15
 | .fields _=>1 | .field _ _ _=>0
 | .pat=>2 | .patom=>1
def PM.paid (r:Nat):Bool->PM->Prop
 | _,.ret _=>True
 | _,.fail=>True
 | c,.call m k=>(c=false->m.rank<r)/\∀ x,PM.paid r (c||m.eats) (k x)
 | c,.acc _ yes no=>(∀ t,PM.paid r true (yes t))/\PM.paid r c no
 | c,.look _ yes no=>PM.paid r c yes/\PM.paid r c no
 | c,.look2 _ _ yes no=>PM.paid r c yes/\PM.paid r c no
theorem paid_ite {r:Nat} {c:Bool} {p:Prop} [Decidable p] {a b:PM} (ha:p->a.paid r c) (hb:¬p->b.paid r c):(if p then a else b).paid r c:=by
 split
 . exact ha ‹_›
 . exact hb ‹_›
theorem step_paid (m:Md):(step m).paid m.rank false:=by
 cases m <;> simp only[step,need,name,bound,recordB,withB,Md.rank]
 all_goals repeat' first | exact trivial | exact(fun h:true=false=>Bool.noConfusion h) | exact(fun _:false=false=>by decide) | (apply paid_ite <;> intro _) | constructor | intro _
 all_goals (simp only[Md.rank];omega)
theorem rank_lt (m:Md):m.rank<16:=by
 cases m <;> simp only[Md.rank] <;> omega
def Row (T:List Tok):Prop:=∃ X e,T=X++[e]/\NoEnd X/\e.1.kind=0
theorem Row.right:∀{P R:List Tok},Row (P++R)->NoEnd P->Row R
 | [],R,h,_=>h
 | t::P,R,⟨X,e,h,hx,he⟩,hp=>by
  cases X with
  | nil =>
   have h1:t=e:=by simpa using congrArg List.head? h
   rw[← h1] at he;exact absurd he hp.head
  | cons u X =>
   exact Row.right (P:=P) ⟨X,e,by simpa using congrArg List.tail h,hx.tail,he⟩ hp.tail
theorem xm {rec:Md->List Tok->PR} {n r:Nat} (hr:∀ m T,Took m.eats T (rec m T)) (hm:∀ m T,Row T->16*T.length+m.rank<16*n+r->rec m T≠.out) :
 ∀(pm:PM) (e c:Bool) (T:List Tok),pm.fine e c->pm.paid r c->Row T->T.length<=n->(c=true->T.length<n)->exec rec pm T≠.out
 | .ret _,_,_,_,_,_,_,_,_=>fun h=>by cases h
 | .fail,_,_,_,_,_,_,_,_=>fun h=>by cases h
 | .call m k,e,c,T,h,hp,ht,hl,hc=>by
  have h1:=hr m T;have h2:=hm m T ht (by
   have:=rank_lt m;cases c with
   | true=>have:=hc rfl;omega
   | false=>have:=hp.1 rfl;omega)
  rw[exec];cases hx:rec m T with
  | ok x R =>
   rw[hx] at h1;obtain⟨P,hT,hP,hne⟩:=h1;subst hT;rw[List.length_append] at hl hc;refine xm hr hm (k x) e (c||m.eats) R (h x) (hp.2 x) (ht.right hP) (by omega) (fun h'=>?_);rcases (Bool.or_eq_true _ _).mp h' with h' | h'
   . have:=hc h';omega
   . have:=List.length_pos_iff.2 (hne h');omega
  | bad R=>exact fun h=>by cases h
  | out=>exact absurd hx h2
 | .acc p yes no,e,c,[],h,hp,ht,hl,hc=>by
  obtain⟨X,u,h,_⟩:=ht;simp at h
 | .acc p yes no,e,c,t::R,h,hp,ht,hl,hc=>by
  rw[exec]
  split
  . rename_i hpt;have hk:=h.1 t hpt;rw[List.length_cons] at hl;exact xm hr hm (yes t) e true R (h.2.1 t) (hp.1 t) (ht.right (P:=[t]) (NoEnd.nil.cons hk)) (by omega) (fun _=>by omega)
  . exact xm hr hm no e c (t::R) h.2.2 hp.2 ht hl hc
 | .look p yes no,e,c,[],h,hp,ht,hl,hc=>by
  obtain⟨X,u,h,_⟩:=ht;simp at h
 | .look p yes no,e,c,t::R,h,hp,ht,hl,hc=>by
  rw[exec]
  split
  . exact xm hr hm yes e c (t::R) h.1 hp.1 ht hl hc
  . exact xm hr hm no e c (t::R) h.2 hp.2 ht hl hc
 | .look2 p q yes no,e,c,[],h,hp,ht,hl,hc=>by
  obtain⟨X,u,h,_⟩:=ht;simp at h
 | .look2 p q yes no,e,c,t::R,h,hp,ht,hl,hc=>by
  rw[exec]
  split
  . exact xm hr hm yes e c (t::R) h.2.2.1 hp.1 ht hl hc
  . exact xm hr hm no e c (t::R) h.2.2.2 hp.2 ht hl hc
theorem rh:∀(f:Nat) (m:Md) (T:List Tok),Row T->16*T.length+m.rank<f->run f m T≠.out
 | 0,_,_,_,h=>absurd h (by omega)
 | f+1,m,T,ht,h=>by
  rw[zq];exact xm (n:=T.length) (r:=m.rank) (xd f) (fun m' T' ht' hl=>rh f m' T' ht' (by omega)) (step m) m.eats false T (za5 m) (step_paid m) ht (Nat.le_refl _) (fun h=>by cases h)
def Md.chain:Md->Bool
 | .seq | .item | .asg | .level _ | .unary | .app | .post | .atom=>true
 | _=>false
def PM.two:PM->Prop
 | .ret _ | .fail=>True
 | .call _ k=>∀ x,PM.two (k x)
 | .acc _ yes no=>(∀ t,PM.two (yes t))/\PM.two no
 | .look _ yes no=>PM.two yes/\PM.two no
 | .look2 p _ yes no=>(∀ t,p t=true->isKind 1 t=true)/\PM.two yes/\PM.two no/\∃ m k,no=.call m k/\m.chain=true
theorem zbZ {X P R:List Tok} {e:Tok} (he:e.1.kind=0) (h:X++[e]=P++R) (hP:NoEnd P):∃ Q,R=Q++[e]/\X=P++Q:=by
 induction P generalizing X with
 | nil=>exact⟨X,h.symm,rfl⟩
 | cons u P ih =>
  cases X with
  | nil =>
   have h1:e=u:=by simpa using congrArg List.head? h
   rw[h1] at he;exact absurd he hP.head
  | cons v X =>
   have h1:v=u:=by simpa using congrArg List.head? h
   obtain⟨Q,h2,h3⟩:=ih (X:=X) (by simpa using congrArg List.tail h) hP.tail;exact⟨Q,h2,by rw[h1,h3];rfl⟩
def isShut (t:Tok):Prop:=isOne [sShut] t=true
def er (t:Tok):Tok:=(t.1,0)
def Hd.er (h:Hd):Hd:=⟨h.kind,0,h.name,h.n,h.s,h.labels⟩
mutual
def Nd.er:Nd->Nd
 | .mk h l a=>.mk h.er (ersN l) (ersA a)
def ersN:List Nd->List Nd
 | []=>[]
 | x::r=>x.er::ersN r
def ersA:List (Nd×Nd)->List (Nd×Nd)
 | []=>[]
 | (p,b)::r=>(p.er,b.er)::ersA r
end
def Md.er:Md->Md
 | .letb t=>.letb (Go.Proofs.YtblonfjlcfjodaaGreatDoor.er t)
 | .cases k t=>.cases k (Go.Proofs.YtblonfjlcfjodaaGreatDoor.er t)
 | .choice t=>.choice (Go.Proofs.YtblonfjlcfjodaaGreatDoor.er t)
 | .arms l=>.arms (ersA l)
 | .lvl n e=>.lvl n e.er
 | .apps e=>.apps e.er
 | .posts n l=>.posts n (ersN l)
 | .dots e=>.dots e.er
 | .braces t=>.braces (Go.Proofs.YtblonfjlcfjodaaGreatDoor.er t)
 | .field b ls l=>.field b ls (ersN l)
 | m=>m
def PR.er:PR->PR
 | .ok x R=>.ok x.er (R.map Go.Proofs.YtblonfjlcfjodaaGreatDoor.er)
 | .bad R=>.bad (R.map Go.Proofs.YtblonfjlcfjodaaGreatDoor.er)
 | .out=>.out
inductive PM.Alike:PM->PM->Prop
 | ret (x:Nd):PM.Alike (.ret x) (.ret x.er)
 | fail:PM.Alike .fail .fail
 | call (m:Md) (k k':Nd->PM):(∀ x,PM.Alike (k x) (k' x.er))->PM.Alike (.call m k) (.call m.er k')
 | acc (p:Tok->Bool) (yes yes':Tok->PM) (no no':PM):(∀ t,p (Go.Proofs.YtblonfjlcfjodaaGreatDoor.er t)=p t)->(∀ t,PM.Alike (yes t) (yes' (Go.Proofs.YtblonfjlcfjodaaGreatDoor.er t)))->PM.Alike no no'->PM.Alike (.acc p yes no) (.acc p yes' no')
 | look (p:Tok->Bool) (yes yes' no no':PM):(∀ t,p (Go.Proofs.YtblonfjlcfjodaaGreatDoor.er t)=p t)->PM.Alike yes yes'->PM.Alike no no'->PM.Alike (.look p yes no) (.look p yes' no')
 | look2 (p q:Tok->Bool) (yes yes' no no':PM):(∀ t,p (Go.Proofs.YtblonfjlcfjodaaGreatDoor.er t)=p t)->(∀ t,q (Go.Proofs.YtblonfjlcfjodaaGreatDoor.er t)=q t)->PM.Alike yes yes'->PM.Alike no no'->PM.Alike (.look2 p q yes no) (.look2 p q yes' no')
end
section
open Go.RowKit
theorem list_end {α:Type} (l:List α):l=[]∨∃ m x,l=m++[x]:=by
 cases h:l.reverse with
 | nil=>exact .inl (by simpa using h)
 | cons x m=>exact .inr ⟨m.reverse,x,by simpa using congrArg List.reverse h⟩
theorem end_one {X A:List Tok} {e t:Tok} (h:X++[e]=A++[t]):X=A/\e=t:=by
 obtain⟨h1,h2⟩:=List.append_inj' h rfl;exact⟨h1,by simpa using h2⟩
def tokV (T:List Tok):PR:=run (16*T.length+16) .text T
mutual
def Nd.parts (d:Nat):Nd->List (Int×Nat)
 | .mk h l a=>(h.pos,d)::(partsN (d+1) l++partsA (d+1) a)
def partsN (d:Nat):List Nd->List (Int×Nat)
 | []=>[]
 | x::r=>x.parts d++partsN d r
def partsA (d:Nat):List (Nd×Nd)->List (Int×Nat)
 | []=>[]
 | (p,b)::r=>p.parts d++(b.parts d++partsA d r)
end
inductive PV where
 | ok (x:Nd)
 | bad (e:Int) (q:Nat)
def deepV (most:Int) (x:Nd):Option Int:=((x.parts 1).find? fun t=>decide (most<(t.2:Int))).map (·.1)
def treeV (x:Nd):PV:=if 4096<(x.parts 1).length then .bad 3 0 else match deepV 200 x with
 | some q=>.bad 22 q.toNat
 | none=>.ok x
def ParseV (l:List UInt8):PV:=match LexV l with
 | .bad e q=>.bad e q
 | .ok T=>match tokV T with
  | .ok x _=>treeV x
  | .bad R=>.bad 21 ((R.head?.map (·.2)).getD 0)
  | .out=>.bad 0 0
abbrev endT (n:Nat):Tok:=(⟨0,[],0⟩,n)
theorem qh {l:List UInt8} {X:List Tok} (h:lexGo 0 0 l=.ok X):NoEnd X:=fun t ht=>by
 have:=(rU 0 l X h t ht).2;omega
theorem zdT {X:List Tok} (h:NoEnd X) (n:Nat):Row (X++[endT n]):=⟨X,_,rfl,h,rfl⟩
theorem vW {T:List Tok} (h:Row T):tokV T≠.out:=rh _ _ _ h (by show 16*T.length+15<_;omega)
theorem wk (x:Nd):treeV x=.ok x∨treeV x=.bad 3 0∨∃ q,treeV x=.bad 22 q:=by
 unfold treeV
 split
 . exact .inr (.inl rfl)
 . split
   . exact .inr (.inr ⟨_,rfl⟩)
   . exact .inl rfl
theorem wu (l:List UInt8):(∃ e q,LexV l=.bad e q/\ParseV l=.bad e q)∨∃ X,lexGo 0 0 l=.ok X/\l.length<=4096/\LexV l=.ok (X++[endT l.length]) /\
 ((∃ x,tokV (X++[endT l.length])=.ok x [endT l.length]/\ParseV l=treeV x)∨∃ A t B,X++[endT l.length]=A++t::B/\tokV (X++[endT l.length])=.bad (t::B)/\ParseV l=.bad 21 t.2):=by
 rcases tG l with⟨X,h1,h2,h3⟩ | ⟨h1,h2⟩ | ⟨e,q,h1,h2,h3,h4,h5⟩
 . refine .inr ⟨X,h2,h3,h1,?_⟩;have hx:=qh h2;have hrow:=zdT hx l.length;have hn:=vW hrow;have ht:=xd (16*(X++[endT l.length]).length+16) .text (X++[endT l.length]);have hp:ParseV l=match tokV (X++[endT l.length]) with
    | .ok x _=>treeV x
    | .bad R=>.bad 21 ((R.head?.map (·.2)).getD 0)
    | .out=>.bad 0 0:=by unfold ParseV;rw[h1]
   rw[hp]
   change Took true _ (tokV (X++[endT l.length])) at ht
   have hstep:tokV (X++[endT l.length])=exec (run (16*(X++[endT l.length]).length+15)) (step .text) (X++[endT l.length]):=rfl;cases hv:tokV (X++[endT l.length]) with
   | ok x R =>
    refine .inl ⟨x,?_,rfl⟩;rw[hv] at ht hstep;obtain⟨P,hP,hPn,_⟩:=ht;obtain⟨Q,rfl,hQ⟩:=zbZ rfl hP hPn;cases Q with
    | nil=>rfl
    | cons u Q =>
     exfalso;have hu:u.1.kind≠0:=hx u (by rw[hQ];simp);simp only[step,exec] at hstep
     split at hstep
     . rename_i y S hy;cases S with
       | nil=>cases hstep
       | cons v S =>
        simp only at hstep
        split at hstep
        . rename_i hk;obtain⟨_,h8⟩:=PR.ok.inj hstep;obtain rfl:u=v:=by simpa using congrArg List.head? h8
          unfold isKind at hk;exact hu (of_decide_eq_true hk)
        . cases hstep
     . cases hstep
     . cases hstep
   | bad R =>
    rw[hv] at ht;obtain⟨P,hP,hPn⟩:=ht;obtain⟨Q,rfl,hQ⟩:=zbZ rfl hP hPn;cases Q with
    | nil=>exact .inr ⟨X,endT l.length,[],rfl,rfl,rfl⟩
    | cons u Q=>exact .inr ⟨P,u,Q++[endT l.length],by rw[hQ];simp,rfl,rfl⟩
   | out=>exact absurd hv hn
 . exact .inl ⟨4,0,h1,by unfold ParseV;rw[h1]⟩
 . exact .inl ⟨e,q,h1,by unfold ParseV;rw[h1]⟩
end
section
open Go.RowKit
def CellsIn (w:World) (g:Nat):Prop:=∃ c t h,w.heap[g]? = some (.cells c t h)
theorem CellsIn.lt {w:World} {g:Nat} (h:CellsIn w g):g<w.heap.size:=by
 obtain⟨c,t,h,h1⟩:=h;exact(Array.getElem?_eq_some_iff.1 h1).1
def Move (w:World) (N:Nat->Prop) (w':World) (N':Nat->Prop):Prop:=∀ g,N g->g<w.heap.size->N' g/\w'.heap[g]? = w.heap[g]?
def RowAt (w:World) (N:Nat->Prop) (v:Value) (n:Nat) (xs:List Value):Prop:=∃ a c,v=.slice a n c/\n<=c/\(n=0∨∃ g o,a=some ⟨g,o,none⟩/\N g/\CellsIn w g/\∀ i u,xs[i]? = some u->w.cell? ⟨g,o+i,none⟩=some u)
theorem RowAt.move {w w':World} {N N':Nat->Prop} {v:Value} {n:Nat} {xs:List Value} (h:RowAt w N v n xs) (hm:Move w N w' N'):RowAt w' N' v n xs:=by
 obtain⟨a,c,h1,h2,h3⟩:=h;refine⟨a,c,h1,h2,h3.imp id ?_⟩;rintro⟨g,o,rfl,hN,hl,hc⟩;obtain⟨h4,h5⟩:=hm g hN hl.lt;obtain⟨cc,ct,ch,h6⟩:=hl;exact⟨g,o,rfl,h4,⟨cc,ct,ch,h5.trans h6⟩,fun i u hu=>(ze (w:=w) (a:=⟨g,o+i,none⟩) h5).trans (hc i u hu)⟩
def RowIn (w:World) (N:Nat->Prop) (_:TypeId) (_:Nat) (v:Value) (n:Nat) (xs:List Value):Prop:=RowAt w N v n xs/\n<=9223372036854775807
theorem vD {w:World} {N:Nat->Prop} {e:TypeId} {size:Nat} {v:Value} {n:Nat} {xs:List Value} (h:w.ownsRow 0 e size v n xs) (h3:∀ b,v.ownBlock=some b->N b):RowIn w N e size v n xs:=by
 obtain⟨h1,h2⟩:=h;rcases h2 with h2 | ⟨g,cap,cur,rfl,hb,hg,hn,hcap,hsz,htake⟩
 . obtain⟨rfl,h4⟩:=h2;have h5:n=0:=by first | exact h4 | exact h4.1
   subst h5;exact⟨⟨none,0,rfl,Nat.le_refl _,.inl rfl⟩,by decide⟩
 . refine⟨⟨some ⟨g,0,none⟩,cap,rfl,hn,.inr ⟨g,0,rfl,h3 g rfl,⟨_,_,_,hg⟩,fun i u hu=>?_⟩⟩,by have:=hcap;unfold maxLen at this;omega⟩;rw[zf hg,Nat.zero_add];rw[← htake] at hu;have h9:=(List.getElem?_eq_some_iff.1 hu).1;rw[List.length_take] at h9;rw[List.getElem?_take_of_lt (by omega)] at hu
   simpa using hu
theorem RowIn.move {w w':World} {N N':Nat->Prop} {e:TypeId} {size:Nat} {v:Value} {n:Nat} {xs:List Value} (h:RowIn w N e size v n xs) (hm:Move w N w' N'):RowIn w' N' e size v n xs:=⟨RowAt.move h.1 hm,h.2⟩
def strCells (l:List (List UInt8)):List Value:=l.map fun x=>.string ⟨x.toArray⟩
mutual
def IsP (w:World) (N:Nat->Prop):List Value->Nd->Prop
 | cs,.mk h args arms=>arms=[]/\∃ vl va,cs=[.int .i64 h.kind,.int .i64 h.pos,.string ⟨h.name.toArray⟩,.int .i64 h.n,.string ⟨h.s.toArray⟩,vl,va]/\RowIn w N 9 1 vl h.labels.length (strCells h.labels)/\∃ L,RowIn w N 39 7 va args.length L.flatten/\IsPs w N L args
def IsPs (w:World) (N:Nat->Prop):List (List Value)->List Nd->Prop
 | [],[]=>True
 | cs::L,e::r=>IsP w N cs e/\IsPs w N L r
 | _,_=>False
end
mutual
def IsE (w:World) (N:Nat->Prop):List Value->Nd->Prop
 | cs,.mk h args arms=>∃ vl va vr,cs=[.int .i64 h.kind,.int .i64 h.pos,.string ⟨h.name.toArray⟩,.int .i64 h.n,.string ⟨h.s.toArray⟩,vl,va,vr]/\RowIn w N 9 1 vl h.labels.length (strCells h.labels)/\(∃ L,RowIn w N 27 8 va args.length L.flatten/\IsEs w N L args)/\∃ M,RowIn w N 77 15 vr arms.length M.flatten/\IsAs w N M arms
def IsEs (w:World) (N:Nat->Prop):List (List Value)->List Nd->Prop
 | [],[]=>True
 | cs::L,e::r=>IsE w N cs e/\IsEs w N L r
 | _,_=>False
def IsAs (w:World) (N:Nat->Prop):List (List Value)->List (Nd×Nd)->Prop
 | [],[]=>True
 | cs::L,(p,b)::r=>(∃ c1 c2,cs=c1++c2/\IsP w N c1 p/\IsE w N c2 b)/\IsAs w N L r
 | _,_=>False
end
mutual
theorem IsP.move {w w':World} {N N':Nat->Prop} (hm:Move w N w' N'):∀{cs:List Value} {e:Nd},IsP w N cs e->IsP w' N' cs e
 | cs,.mk h args arms,h0=>by
  obtain⟨h1,vl,va,rfl,h3,L,h4,h5⟩:=h0;exact⟨h1,vl,va,rfl,h3.move hm,L,h4.move hm,IsPs.move hm h5⟩
theorem IsPs.move {w w':World} {N N':Nat->Prop} (hm:Move w N w' N'):∀{L:List (List Value)} {r:List Nd},IsPs w N L r->IsPs w' N' L r
 | [],[],_=>trivial
 | _::_,_::_,h=>⟨IsP.move hm h.1,IsPs.move hm h.2⟩
 | [],_::_,h=>h.elim
 | _::_,[],h=>h.elim
end
mutual
theorem IsE.move {w w':World} {N N':Nat->Prop} (hm:Move w N w' N'):∀{cs:List Value} {e:Nd},IsE w N cs e->IsE w' N' cs e
 | cs,.mk h args arms,h0=>by
  obtain⟨vl,va,vr,rfl,h3,⟨L,h4,h5⟩,M,h6,h7⟩:=h0;exact⟨vl,va,vr,rfl,h3.move hm,⟨L,h4.move hm,IsEs.move hm h5⟩,M,h6.move hm,IsAs.move hm h7⟩
theorem IsEs.move {w w':World} {N N':Nat->Prop} (hm:Move w N w' N'):∀{L:List (List Value)} {r:List Nd},IsEs w N L r->IsEs w' N' L r
 | [],[],_=>trivial
 | _::_,_::_,h=>⟨IsE.move hm h.1,IsEs.move hm h.2⟩
 | [],_::_,h=>h.elim
 | _::_,[],h=>h.elim
theorem IsAs.move {w w':World} {N N':Nat->Prop} (hm:Move w N w' N'):∀{L:List (List Value)} {r:List (Nd×Nd)},IsAs w N L r->IsAs w' N' L r
 | [],[],_=>trivial
 | _::_,(_,_)::_,⟨⟨c1,c2,h1,h2,h3⟩,h4⟩=>⟨⟨c1,c2,h1,IsP.move hm h2,IsE.move hm h3⟩,IsAs.move hm h4⟩
 | [],_::_,h=>h.elim
 | _::_,[],h=>h.elim
end
theorem IsEs.append {w:World} {N:Nat->Prop}:∀{L M:List (List Value)} {r s:List Nd},IsEs w N L r->IsEs w N M s->IsEs w N (L++M) (r++s)
 | [],_,[],_,_,h=>h
 | _::_,_,_::_,_,h,h'=>⟨h.1,IsEs.append h.2 h'⟩
 | [],_,_::_,_,h,_=>h.elim
 | _::_,_,[],_,h,_=>h.elim
theorem IsPs.append {w:World} {N:Nat->Prop}:∀{L M:List (List Value)} {r s:List Nd},IsPs w N L r->IsPs w N M s->IsPs w N (L++M) (r++s)
 | [],_,[],_,_,h=>h
 | _::_,_,_::_,_,h,h'=>⟨h.1,IsPs.append h.2 h'⟩
 | [],_,_::_,_,h,_=>h.elim
 | _::_,_,[],_,h,_=>h.elim
theorem IsAs.append {w:World} {N:Nat->Prop}:∀{L M:List (List Value)} {r s:List (Nd×Nd)},IsAs w N L r->IsAs w N M s->IsAs w N (L++M) (r++s)
 | [],_,[],_,_,h=>h
 | _::_,_,(_,_)::_,_,h,h'=>⟨h.1,IsAs.append h.2 h'⟩
 | [],_,_::_,_,h,_=>h.elim
 | _::_,_,[],_,h,_=>h.elim
theorem IsE.len {w:World} {N:Nat->Prop} {cs:List Value} {e:Nd} (h:IsE w N cs e):cs.length=8:=by
 cases e;obtain⟨vl,va,vr,rfl,_⟩:=h;rfl
theorem IsP.len {w:World} {N:Nat->Prop} {cs:List Value} {e:Nd} (h:IsP w N cs e):cs.length=7:=by
 cases e;obtain⟨_,vl,va,rfl,_⟩:=h;rfl
structure TokOK (t:Tok):Prop where
 text:t.1.kind=7∨t.1.kind=6->t.1.text≠[]
 low:0<=t.1.n
 high:t.1.n<=4611686018427387903
 pos:t.2<=4096
def TokLies (w:World) (g off:Nat) (T:List Tok):Prop:=∀(i:Nat) (t:Tok),T[i]? = some t->w.cell? ⟨g,off+i*4,none⟩=some (.int .i64 t.1.kind)/\w.cell? ⟨g,off+i*4+1,none⟩=some (.int .i64 (t.2:Nat))/\w.cell? ⟨g,off+i*4+2,none⟩=some (.string ⟨t.1.text.toArray⟩)/\w.cell? ⟨g,off+i*4+3,none⟩=some (.int .i64 t.1.n)
def wordCells:List Value:=[.string ⟨#[114,101,102]⟩,.string ⟨#[108,101,110]⟩,.string ⟨#[115,105,122,101]⟩,.string ⟨#[103,101,116,99]⟩,.string ⟨#[112,117,116,99]⟩,.string ⟨#[97,114,114,97,121]⟩,.string ⟨#[103,101,116]⟩,.string ⟨#[98,121,116,101]⟩,.string ⟨#[99,97,116]⟩,.string ⟨#[]⟩,.string ⟨#[115,101,116]⟩,.string ⟨#[]⟩,.string ⟨#[]⟩,.string ⟨#[]⟩,.string ⟨#[]⟩]
def levelCells:List Value:=[.int .i64 22,.int .i64 2,.string ⟨#[124,124]⟩,.string ⟨#[]⟩,.string ⟨#[]⟩,.int .i64 21,.int .i64 2,.string ⟨#[38,38]⟩,.string ⟨#[]⟩,.string ⟨#[]⟩,.int .i64 19,.int .i64 0,.string ⟨#[61]⟩,.string ⟨#[60]⟩,.string ⟨#[]⟩,.int .i64 19,.int .i64 1,.string ⟨#[43]⟩,.string ⟨#[45]⟩,.string ⟨#[]⟩,.int .i64 19,.int .i64 1,.string ⟨#[42]⟩,.string ⟨#[47]⟩,.string ⟨#[37]⟩]
structure Vars (w:World):Prop where
 words:∀(i:Nat) (v:Value),wordCells[i]? = some v->w.cell? ⟨3,i,none⟩=some v
 levels:∀(i:Nat) (v:Value),levelCells[i]? = some v->w.cell? ⟨2,i,none⟩=some v
theorem Vars.keep {w w':World} {p:Nat} (h:Vars w) (h1 : 3 < p) (h2 : 2 < p) (hk:∀ b,b<p->w'.heap[b]? = w.heap[b]?):Vars w' :=
 ⟨fun i v hv=>(ze (w:=w) (a:=⟨3,i,none⟩) (hk _ h1)).trans (h.words i v hv),fun i v hv=>(ze (w:=w) (a:=⟨2,i,none⟩) (hk _ h2)).trans (h.levels i v hv)⟩
structure PAt (w:World) (p:Nat) (T:List Tok):Prop where
 ex:∃ g off cap,w.heap[p]? = some (.cells #[.slice (some ⟨g,off,none⟩) T.length cap] 124 (0,0))/\T.length<=cap/\g<p/\T.length<=5000/\TokLies w g off T
 row:Row T
 ok:∀ t∈T,TokOK t
 vars:Vars w
 low : 3 < p/\2 < p
theorem PAt.lt {w:World} {p:Nat} {T:List Tok} (h:PAt w p T):p<w.heap.size:=by
 obtain⟨⟨g,off,cap,h1,_⟩,_⟩:=h;exact zp h1
theorem TokLies.keep {w w':World} {g off:Nat} {T:List Tok} (h:TokLies w g off T) (hg:w'.heap[g]? = w.heap[g]?):TokLies w' g off T:=fun i t ht=>by
 obtain⟨h1,h2,h3,h4⟩:=h i t ht;exact⟨(ze (w:=w) (a:=⟨g,_,none⟩) hg).trans h1,(ze (w:=w) (a:=⟨g,_,none⟩) hg).trans h2,(ze (w:=w) (a:=⟨g,_,none⟩) hg).trans h3,(ze (w:=w) (a:=⟨g,_,none⟩) hg).trans h4⟩
theorem PAt.keep {w w':World} {p:Nat} {T:List Tok} (h:PAt w p T) (hk:∀ b,b<=p->w'.heap[b]? = w.heap[b]?):PAt w' p T:=by
 obtain⟨⟨g,off,cap,h1,h2,h3,h4,h5⟩,hr,ho,hv,hl⟩:=h;exact⟨⟨g,off,cap,(hk p (Nat.le_refl _)).trans h1,h2,h3,h4,h5.keep (hk g (Nat.le_of_lt h3))⟩,hr,ho,hv.keep hl.1 hl.2 fun b hb=>hk b (Nat.le_of_lt hb),hl⟩
theorem PAt.below {w w':World} {p:Nat} {T:List Tok} (h:PAt w p T) (hb:Below w.heap.size w w'):PAt w' p T:=h.keep fun b hx=>hb.block b (Nat.lt_of_le_of_lt hx h.lt)
theorem PAt.view {w:World} {p:Nat} {t:Tok} {R:List Tok} (h:PAt w p (t::R)):∃ g off cap,w.cell? ⟨p,0,none⟩=some (.slice (some ⟨g,off,none⟩) (R.length+1) cap)/\w.frozen? ⟨p,0,none⟩=false/\R.length+1<=cap/\g<p/\R.length+1<=5000 /\
 w.cell? ⟨g,off,none⟩=some (.int .i64 t.1.kind)/\w.cell? ⟨g,off+1,none⟩=some (.int .i64 (t.2:Nat))/\w.cell? ⟨g,off+2,none⟩=some (.string ⟨t.1.text.toArray⟩)/\w.cell? ⟨g,off+3,none⟩=some (.int .i64 t.1.n):=by
 obtain⟨⟨g,off,cap,h1,h2,h3,h4,h5⟩,_⟩:=h;obtain⟨k1,k2,k3,k4⟩:=h5 0 t rfl;rw[Nat.zero_mul,Nat.add_zero] at k1 k2 k3 k4;exact⟨g,off,cap,by rw[zf h1];rfl,Lib.frozen_of_heap h1 0,h2,h3,h4,k1,k2,k3,k4⟩
theorem PAt.next {w w':World} {p:Nat} {t u:Tok} {R:List Tok} (h:PAt w p (t::u::R)) {g off cap:Nat} (hc:w.cell? ⟨p,0,none⟩=some (.slice (some ⟨g,off,none⟩) ((u::R).length+1) cap)) (ht:t.1.kind≠0) (hp:w'.heap[p]? = some (.cells #[.slice (some ⟨g,off+4,none⟩) (u::R).length (cap-1)] 124 (0,0))) (hk:∀ b,b<p->w'.heap[b]? = w.heap[b]?):PAt w' p (u::R):=by
 obtain⟨⟨g',off',cap',h1,h2,h3,h4,h5⟩,hr,ho,hv,hl⟩:=h;rw[zf h1] at hc;have hc:Value.slice (some ⟨g',off',none⟩) (t::u::R).length cap'=.slice (some ⟨g,off,none⟩) ((u::R).length+1) cap:=zc hc;simp only[Value.slice.injEq,Option.some.injEq,Addr.mk.injEq] at hc;obtain⟨⟨rfl,rfl,_⟩,_,rfl⟩:=hc;rw[List.length_cons] at h2 h4;refine⟨⟨g',off'+4,cap' - 1,hp,by omega,h3,by omega,fun i x hx=>?_⟩,hr.right (P:=[t]) (NoEnd.nil.cons ht),fun x hx=>ho x (by simp [hx]),hv.keep hl.1 hl.2 hk,hl⟩;obtain⟨k1,k2,k3,k4⟩:=(h5.keep (hk g' h3)) (i+1) x (by simpa using hx);rw[show off'+(i+1)*4=off'+4+i*4 by omega] at k1 k2 k3 k4;exact⟨k1,k2,k3,k4⟩
theorem uD {w w':World} {p:Nat} (h:w.grownBy w' (some p)):∀ b,b<w.heap.size->b≠p->w'.heap[b]? = w.heap[b]? := fun b hb hn=>h.block b hb fun e=>hn (zc e)
theorem zo {a b c:World} {r:Option Nat} (h:a.grownBy b r) (k:b.grownBy c r):a.grownBy c r:=⟨k.os.trans h.os,k.tape.trans h.tape,k.output.trans h.output,Nat.le_trans h.size k.size,fun i hi hr=>(k.block i (zd hi h.size) hr).trans (h.block i hi hr)⟩
theorem zr {a b c:World} {r:Option Nat} (h:a.grownBy b r) (hb:Below b.heap.size b c):a.grownBy c r:=⟨hb.os.trans h.os,hb.tape.trans h.tape,hb.output.trans h.output,Nat.le_trans h.size hb.size,fun i hi hr=>(hb.block i (zd hi h.size)).trans (h.block i hi hr)⟩
theorem uY {a b:World} (h:Below a.heap.size a b) (r:Option Nat):a.grownBy b r:=⟨h.os,h.tape,h.output,h.size,fun i hi _=>h.block i hi⟩
theorem xW {a c:World} {p b:Nat} (h:a.grownBy c (some p)) (hb:a.heap.size<=b∨b=p) (i:Nat) (v:Value):a.grownBy (c.setCell ⟨b,i,none⟩ v) (some p):=by
 refine⟨h.os,h.tape,h.output,by simpa using h.size,fun j hj hr=>?_⟩;rw[Below.heap_setCell _ _ _ _ (fun e=>?_)]
 . exact h.block j hj hr
 . have e:j=b:=e;rcases hb with hb | hb
   . omega
   . exact hr (by rw[e,hb])
theorem PAt.step {w:World} {p:Nat} {t u:Tok} {R:List Tok} (h:PAt w p (t::u::R)) {g off cap n:Nat} (hc:w.cell? ⟨p,0,none⟩=some (.slice (some ⟨g,off,none⟩) (n+1) cap)) (ht:t.1.kind≠0) (hn:(u::R).length=n) :
 PAt (w.setCell ⟨p,0,none⟩ (.slice (some ⟨g,off+4,none⟩) n (cap-1))) p (u::R)/\w.grownBy (w.setCell ⟨p,0,none⟩ (.slice (some ⟨g,off+4,none⟩) n (cap-1))) (some p):=by
 subst hn;refine⟨h.next hc ht ?_ fun b hb=>Below.heap_setCell _ _ _ _ (fun e=>by have e:b=p:=e;omega),xW (World.grownBy.refl _ _) (.inr rfl) _ _⟩
 obtain⟨⟨g',off',cap',h1,_⟩,_⟩:=h;rw[zn h1];rfl
def faultV (q:Nat):Ending:=.panicked [{ v:=.iface 59 (.agg #[.int .i64 21,.int .i64 (q:Nat)]),recovered:=false }]
end
section
open Go.RowKit
def StrAt (w:World) (v:Value) (L:List (List UInt8)):Prop:=∃ g o cap,v=.slice (some ⟨g,o,none⟩) L.length cap/\g<w.heap.size/\∀(i:Nat) (l:List UInt8),L[i]? = some l->w.cell? ⟨g,o+i,none⟩=some (.string ⟨l.toArray⟩)
theorem StrAt.below {w w':World} {v:Value} {L:List (List UInt8)} (h:StrAt w v L) (hb:Below w.heap.size w w'):StrAt w' v L:=by
 obtain⟨g,o,cap,h1,h2,h3⟩:=h;exact⟨g,o,cap,h1,zd h2 hb.size,fun i l hl=>(hb.cell (p:=⟨g,o+i,none⟩) h2).trans (h3 i l hl)⟩
def SameInt (n:Int) (w:World) (e:Ending) (w':World):Prop:=e=.returned (.int .i64 n)/\w=w'
def SameBool (b:Bool) (w:World) (e:Ending) (w':World):Prop:=e=.returned (.bool b)/\w=w'
theorem idx_found {x:List UInt8}:∀{L:List (List UInt8)} {i:Nat},(∀ j,j<i->∀ l,L[j]? = some l->l≠x)->L[i]? = some x->L.contains x=true/\0<=(i:Int)
 | L,i,_,h=>⟨by simpa using List.mem_of_getElem? h,by omega⟩
theorem idx_none {x:List UInt8} {L:List (List UInt8)} (h:∀ j,j<L.length->∀ l,L[j]? = some l->l≠x):L.contains x=false:=by
 rw[← Bool.not_eq_true];intro hc;have hc:x∈L:=by simpa using hc
 obtain⟨j,hj,hx⟩:=List.mem_iff_getElem.1 hc;exact h j hj x (by rw[List.getElem?_eq_getElem hj,hx]) rfl
def IndexIs (b:Bool) (w:World) (e:Ending) (w':World):Prop:=∃ n:Int,e=.returned (.int .i64 n)/\w=w'/\((b=true/\0<=n/\n<=100000)∨(b=false/\n=-1))
theorem zed (v:Value) (L:List (List UInt8)) (x:List UInt8) (w:World) (h:StrAt w v L) (hl:L.length<=1000):Calls Tryz.prog 202 #[v,.string ⟨x.toArray⟩] w (IndexIs (L.contains x) w):=by
 obtain⟨g,o,cap,rfl,hg,hc⟩:=h;have HC:=zb hc;have HF:=zb (fun (i:Nat) (h1:∀ j,j<i->∀ l,L[j]? = some l->l≠x) (h2:L[i]? = some x)=>(idx_found h1 h2).1);have HN:=zb (fun (h1:∀ j,j<L.length->∀ l,L[j]? = some l->l≠x)=>idx_none h1);have HG:=zb (fun (i:Nat) (h:i<L.length)=>(show ∃ l,L[i]? = some l from⟨L[i],List.getElem?_eq_getElem h⟩))
 clear hc;generalize L.contains x=b at *;generalize hn:L.length=n at *;clear hn
 go_enter Tryz.func202, Tryz.ntmps202
 go_wp2_with fail
 go_loopw [8] (fun vi wr=>∃ i:Nat,i<=n/\vi=.int .i64 i/\wr=w/\Hid (∀ j,j<i->∀ l,L[j]? = some l->l≠x)) (fun vi _=>n-(intOf vi).toNat)
 case atStart=>exact⟨0,by omega,by go_num,rfl,zb (fun j hj=>absurd hj (by omega))⟩
 case round =>
  obtain⟨i,hi,rfl,rfl,HJ⟩:=hrel;by_cases hi2:i<n
  . have g1:decide ((i:Int)<(n:Int))=true:=decide_eq_true (by omega);have g2:(i:Int)<(n:Int):=by omega
    have g3:(0:Int)<=(i:Int):=by omega
    obtain⟨l,hli⟩:=HG.out i hi2;have k1:=HC.out i l hli;have HLI:=zb hli;clear hli;by_cases hx:l=x
    . subst hx;have HE:=zb (HF.out i HJ.out HLI.out)
      go_wp2_with fail
      go_ret;exact⟨i,rfl,rfl,.inl ⟨HE.out,g3,by omega⟩⟩
    . have HX:Hid (∀ j,j<i+1->∀ l,L[j]? = some l->l≠x):=zb (fun j hj l' hl'=>by
       rcases Nat.lt_or_eq_of_le (Nat.le_of_lt_succ hj) with h1 | rfl
       . exact HJ.out j h1 l' hl'
       . have:=HLI.out;rw[hl'] at this;rw[zc this];exact hx)
      have e1:(x == l)=false:=by rw[beq_eq_false_iff_ne];exact fun h=>hx h.symm
      have e2:((⟨x.toArray⟩:ByteArray).toList == (⟨l.toArray⟩:ByteArray).toList)=false:=by rw[beq_eq_false_iff_ne,yq,yq];exact fun h=>hx h.symm
      clear hx
      go_wp2_with fail
      go_roundw
      case rel=>exact⟨i+1,by omega,by go_num,by trivial,HX⟩
      case measure=>simp [intOf];omega
  . have g1:decide ((i:Int)<(n:Int))=false:=decide_eq_false (by omega);obtain rfl:i=n:=by omega
    have HE:=zb (HN.out HJ.out)
    go_wp2_with fail
    go_ret;exact⟨-1,rfl,rfl,.inr ⟨HE.out,rfl⟩⟩
theorem qT (v:Value) (L:List (List UInt8)) (x:List UInt8) (w:World) (h:StrAt w v L) (hl:L.length<=1000):Calls Tryz.prog 166 #[v,.string ⟨x.toArray⟩] w (SameBool (L.contains x) w):=by
 have HI:=zb (zed v L x w h hl);generalize L.contains x=b at *;clear h hl
 go_enter Tryz.func166, Tryz.ntmps166
 go_wp2_with fail
 refine HI.out.mono ?_;rintro e w' ⟨n,rfl,rfl,⟨rfl,h1,h2⟩ | ⟨rfl,rfl⟩⟩
 . have B1:decide (0<=n)=true:=decide_eq_true h1
   go_wp2_with fail
   go_ret;exact⟨rfl,rfl⟩
 . go_wp2_with fail
   go_ret;exact⟨rfl,rfl⟩
def tokVal (t:Tok):Value:=tokAgg t.1.kind (t.2:Nat) t.1.text t.1.n
theorem zeM (t:Tok) (v:Value) (L:List (List UInt8)) (w:World) (h:StrAt w v L) (hl:L.length<=1000):Calls Tryz.prog 209 #[tokVal t,v] w (YesMade (isOne L t) w):=by
 obtain⟨⟨tk,tx,tn⟩,ta⟩:=t;have HB:=zb (zj (w:=w) (.cells #[.int .i64 tk,.int .i64 (ta:Int),.string ⟨tx.toArray⟩,.int .i64 tn] 69 (0,0)));have HC:=zb (qT v L tx _ (h.below HB.out) hl);have HE:Hid (isOne L (⟨tk,tx,tn⟩,ta)=((decide (tk=7)||decide (tk=6))&&L.contains tx)):=zb rfl;generalize isOne L (⟨tk,tx,tn⟩,ta)=b at *;generalize L.contains tx=bc at *;unfold tokVal tokAgg;clear h hl;by_cases h7:tk=7
 . subst h7
   go_enter Tryz.func209, Tryz.ntmps209
   go_wp2_with fail
   refine HC.out.mono ?_;rintro e w' ⟨rfl,rfl⟩
   go_wp2_with fail
   go_ret;exact⟨by rw[HE.out];rfl,HB.out⟩
 . have e7:(tk == 7)=false:=by rw[beq_eq_false_iff_ne];exact h7
   by_cases h6:tk=6
   . subst h6
     go_enter Tryz.func209, Tryz.ntmps209
     go_wp2_with fail
     refine HC.out.mono ?_;rintro e w' ⟨rfl,rfl⟩
     go_wp2_with fail
     go_ret;exact⟨by rw[HE.out];rfl,HB.out⟩
   . have e6:(tk == 6)=false:=by rw[beq_eq_false_iff_ne];exact h6
     have HE2:Hid (b=false):=zb (by rw[HE.out,decide_eq_false h7,decide_eq_false h6];rfl);clear HE h7 h6
     go_enter Tryz.func209, Tryz.ntmps209
     go_wp2_with fail
     go_ret;exact⟨by rw[HE2.out];rfl,HB.out⟩
end
section
open Go.RowKit
def Refused (q:Nat) (w:World) (e:Ending) (w':World):Prop:=e=faultV q/\Below w.heap.size w w'
theorem th (p:Nat) (t:Tok) (R:List Tok) (w:World) (h:PAt w p (t::R)):Calls Tryz.prog 70 #[.pointer (some ⟨p,0,none⟩)] w (Refused t.2 w):=by
 obtain⟨g,off,cap,c0,_,h1,h2,h3,k0,k1,k2,k3⟩:=h.view;have hp:=h.lt;clear h;have g1:(0:Int)<((R.length:Int)+1):=by omega
 generalize R.length=n at *
 go_enter Tryz.func70, Tryz.ntmps70
 go_wp2_with fail
 exact⟨rfl,rfl,Below.refl _ _⟩
theorem zdk (p:Nat) (t:Tok) (R:List Tok) (v:Value) (L:List (List UInt8)) (w:World) (h:PAt w p (t::R)) (hv:StrAt w v L) (hl:L.length<=1000):Calls Tryz.prog 176 #[.pointer (some ⟨p,0,none⟩),v] w (YesMade (isOne L t) w):=by
 obtain⟨g,off,cap,c0,_,h1,h2,h3,k0,k1,k2,k3⟩:=h.view;have hp:=h.lt;have HO:=zb (zeM t v L w hv hl);unfold tokVal tokAgg at HO;clear h hv hl;have g1:(0:Int)<((R.length:Int)+1):=by omega
 generalize isOne L t=b at *;generalize R.length=n at *
 go_enter Tryz.func176, Tryz.ntmps176
 go_wp2_with fail
 refine HO.out.mono ?_;rintro e w' ⟨rfl,hb⟩;have HB:=zb hb;clear hb
 go_wp2_with fail
 go_ret;exact⟨rfl,HB.out⟩
theorem zB {w:World} (o o':Obj):Below w.heap.size w ((w.alloc o).alloc o'):=((Below.refl _ w).alloc (Nat.le_refl _) o).alloc (by simp) o'
def ReadIs (t:Tok) (p:Nat) (R:List Tok) (w:World) (e:Ending) (w':World):Prop:=e=.returned (tokVal t)/\PAt w' p R/\w.grownBy w' (some p)
theorem vB (p:Nat) (t u:Tok) (R:List Tok) (w:World) (h:PAt w p (t::u::R)) (ht:t.1.kind≠0):Calls Tryz.prog 183 #[.pointer (some ⟨p,0,none⟩)] w (ReadIs t p (u::R) w):=by
 obtain⟨g,off,cap,c0,f0,h1,h2,h3,k0,k1,k2,k3⟩:=h.view;have hp:=h.lt;have g1:(0:Int)<(((u::R).length:Int)+1):=by omega
 have g2:(1:Int)<=(((u::R).length:Int)+1):=by omega
 have g3:1<=(u::R).length:=by simp
 have g4:¬cap=1:=by omega
 have HS:=zb (h.step c0 ht rfl);have hgl:g<w.heap.size:=by omega
 clear h ht;generalize (u::R).length=n at *
 go_enter Tryz.func183, Tryz.ntmps183
 go_wp2_with fail
 have HB:=zb (zB (w:=w.setCell ⟨p,0,none⟩ (.slice (some ⟨g,off+4,none⟩) n (cap-1))) (.cells #[.int .i64 t.1.kind,.int .i64 (t.2:Nat),.string ⟨t.1.text.toArray⟩,.int .i64 t.1.n] 69 (0,0)) (.cells #[.int .i64 t.1.kind,.int .i64 (t.2:Nat),.string ⟨t.1.text.toArray⟩,.int .i64 t.1.n] 69 (0,0)));refine bodyPost_ret (v:=tokVal t) (by simp [results, Tryz.results183,go_sem,tokVal,tokAgg]) rfl ⟨rfl,HS.out.1.below HB.out,zr HS.out.2 HB.out⟩
theorem strAt_new (w:World) (L:List (List UInt8)):StrAt (w.alloc (.cells (L.map fun l=>Value.string ⟨l.toArray⟩).toArray 9 (0,0))) (.slice (some ⟨w.heap.size,0,none⟩) L.length L.length) L :=
 ⟨w.heap.size,0,L.length,rfl,by simp,fun i l hl=>by
  rw[zf (zA w _ _ rfl),Nat.zero_add,List.getElem?_toArray,List.getElem?_map,hl];rfl⟩
def Accepted (L:List (List UInt8)) (p:Nat) (t:Tok) (R:List Tok) (w:World) (e:Ending) (w':World):Prop :=
 (isOne L t=true/\e=.returned (.tuple #[tokVal t,.bool true])/\PAt w' p R/\w.grownBy w' (some p)) ∨
 (isOne L t=false/\e=.returned (.tuple #[tokAgg 0 0 [] 0,.bool false])/\Below w.heap.size w w')
def Needed (L:List (List UInt8)) (p:Nat) (t:Tok) (R:List Tok) (w:World) (e:Ending) (w':World):Prop :=
 (isOne L t=true/\e=.returned (tokVal t)/\PAt w' p R/\w.grownBy w' (some p)) ∨
 (isOne L t=false/\e=faultV t.2/\Below w.heap.size w w')
def NameIs (p:Nat) (t:Tok) (R:List Tok) (w:World) (e:Ending) (w':World):Prop :=
 (isKind 1 t=true/\e=.returned (.string ⟨t.1.text.toArray⟩)/\PAt w' p R/\w.grownBy w' (some p)) ∨
 (isKind 1 t=false/\e=faultV t.2/\Below w.heap.size w w')
theorem xx {t:Tok} {R:List Tok} (h:Row (t::R)) (ht:t.1.kind≠0):∃ u S,R=u::S:=by
 cases R with
 | nil =>
  obtain⟨X,e,h1,h2,h3⟩:=h;have:=(end_one (X:=[]) (A:=X) (e:=t) (t:=e) h1).2;rw[this] at ht;exact absurd h3 ht
 | cons u S=>exact⟨u,S,rfl⟩
theorem PAt.set {w:World} {p b:Nat} {T:List Tok} (h:PAt w p T) (hb:p<b) (i:Nat) (v:Value):PAt (w.setCell ⟨b,i,none⟩ v) p T :=
 h.keep fun j hj=>Below.heap_setCell _ _ _ _ (fun e=>by have e:j=b:=e;omega)
theorem tok_put {a w1 w2:World} {b p:Nat} {k q n:Int} {s:ByteArray} {R:List Tok} (h:TokBox w1 b k q s n) (hp:PAt w1 p R) (hg:a.grownBy w1 (some p)) (hb:a.heap.size<=b) (hpb:p<b) (k' q':Int) (s':ByteArray) (n':Int) (he:tokSet w1 b k' q' s' n'=w2):TokBox w2 b k' q' s' n'/\PAt w2 p R/\a.grownBy w2 (some p):=by
 subst he;unfold tokSet;exact⟨h.set _ _ _ _,(((hp.set hpb _ _).set hpb _ _).set hpb _ _).set hpb _ _,xW (xW (xW (xW hg (.inl hb) _ _) (.inl hb) _ _) (.inl hb) _ _) (.inl hb) _ _⟩
theorem qk (p:Nat) (t:Tok) (R:List Tok) (v:Value) (L:List (List UInt8)) (w:World) (h:PAt w p (t::R)) (hv:StrAt w v L) (hl:L.length<=1000):Calls Tryz.prog 122 #[.pointer (some ⟨p,0,none⟩),v] w (Accepted L p t R w):=by
 have hb0:=zR w;have HP:=zb (h.below hb0);have HB0:=zb hb0;have HO:=zb (zdk p t R v L _ HP.out (hv.below hb0) hl);have HE:=zb (fun (hx:isOne L t=true)=>yE L t hx);have HR:=zb (fun (hx:isOne L t=true)=>xx h.row (yE L t hx));have HLT:=zb h.lt;clear h hv hl hb0;obtain⟨b,hbe⟩:∃ b,isOne L t=b:=⟨_,rfl⟩;have HBE:=zb hbe;rw[hbe] at HO;clear hbe
 go_enter Tryz.func122, Tryz.ntmps122
 go_wp2_with fail
 refine HO.out.mono ?_;rintro e w1 ⟨rfl,hb1⟩;have HB1:=zb (HB0.out.trans (hb1.mono HB0.out.size));have HP1:=zb (HP.out.below hb1);have HN:=zb ((TokBox.new w).below hb1 (by simp));clear hb1 HO HP HB0;cases b with
 | false =>
  obtain⟨c0,c1,c2,c3,cf⟩:=HN.out.cells;have f0:=cf 0;have f1:=cf 1;have f2:=cf 2;have f3:=cf 3;have hl:=zp HN.out;clear cf HE HR HP1
  go_wp2_with fail
  have HS:=zb (zD HN.out HB1.out (Nat.le_refl _) 0 0 ⟨#[]⟩ 0 rfl);unfold tokSet at HS;generalize World.setCell _ _ _=w9 at *;obtain⟨d0,d1,d2,d3,_⟩:=HS.out.1.cells;refine bodyPost_ret (v:=.tuple #[tokAgg 0 0 [] 0,.bool false]) (by simp [results, Tryz.results122,go_sem,d0,d1,d2,d3,tokAgg]) rfl (.inr ⟨HBE.out,rfl,HS.out.2⟩)
 | true =>
  obtain⟨u,S,rfl⟩:=HR.out HBE.out;have HRD:=zb (vB p t u S w1 HP1.out (HE.out HBE.out));clear HE HR HP1
  go_wp2_with fail
  refine HRD.out.mono ?_;rintro e w2 ⟨rfl,hp2,hg2⟩;have HP2:=zb hp2;have HG2:=zb (zo (uY HB1.out (some p)) hg2);have HN2:Hid (TokBox w2 w.heap.size 0 0 ⟨#[]⟩ 0):=zb ((uD hg2 _ (zp HN.out) (by have:=HLT.out;omega)).trans HN.out);obtain⟨c0,c1,c2,c3,cf⟩:=HN2.out.cells;have f0:=cf 0;have f1:=cf 1;have f2:=cf 2;have f3:=cf 3;have hl:=zp HN2.out;unfold tokVal tokAgg;clear cf hp2 hg2 HRD HN HB1
  go_wp2_with fail
  have HS:=zb (tok_put HN2.out HP2.out HG2.out (Nat.le_refl _) HLT.out t.1.kind (t.2:Nat) ⟨t.1.text.toArray⟩ t.1.n rfl);unfold tokSet at HS;generalize World.setCell _ _ _=w9 at *;obtain⟨d0,d1,d2,d3,_⟩:=HS.out.1.cells;refine bodyPost_ret (v:=.tuple #[tokVal t,.bool true]) (by simp [results, Tryz.results122,go_sem,d0,d1,d2,d3,tokVal,tokAgg]) rfl (.inl ⟨HBE.out,rfl,HS.out.2⟩)
theorem p_need (p:Nat) (t:Tok) (R:List Tok) (v:Value) (L:List (List UInt8)) (w:World) (h:PAt w p (t::R)) (hv:StrAt w v L) (hl:L.length<=1000):Calls Tryz.prog 210 #[.pointer (some ⟨p,0,none⟩),v] w (Needed L p t R w):=by
 have hb0:=zR w;have HP:=zb (h.below hb0);have HB0:=zb hb0;have HO:=zb (zdk p t R v L _ HP.out (hv.below hb0) hl);have HE:=zb (fun (hx:isOne L t=true)=>yE L t hx);have HR:=zb (fun (hx:isOne L t=true)=>xx h.row (yE L t hx));have HLT:=zb h.lt;clear h hv hl hb0;obtain⟨b,hbe⟩:∃ b,isOne L t=b:=⟨_,rfl⟩;have HBE:=zb hbe;rw[hbe] at HO;clear hbe
 go_enter Tryz.func210, Tryz.ntmps210
 go_wp2_with fail
 refine HO.out.mono ?_;rintro e w1 ⟨rfl,hb1⟩;have HB1:=zb (HB0.out.trans (hb1.mono HB0.out.size));have HP1:=zb (HP.out.below hb1);have HN:=zb ((TokBox.new w).below hb1 (by simp));clear hb1 HO HP HB0;cases b with
 | false =>
  have HRF:=zb (th p t R w1 HP1.out);clear HE HR HP1 HN
  go_wp2_with fail
  refine HRF.out.mono ?_;rintro e w2 ⟨rfl,hb2⟩;have HB2:=zb (HB1.out.trans (hb2.mono HB1.out.size));clear hb2 HRF;unfold faultV
  go_wp2_with fail
  exact⟨rfl,.inr ⟨HBE.out,rfl,HB2.out⟩⟩
 | true =>
  obtain⟨u,S,rfl⟩:=HR.out HBE.out;have HRD:=zb (vB p t u S w1 HP1.out (HE.out HBE.out));clear HE HR HP1
  go_wp2_with fail
  refine HRD.out.mono ?_;rintro e w2 ⟨rfl,hp2,hg2⟩;have HP2:=zb hp2;have HG2:=zb (zo (uY HB1.out (some p)) hg2);have HN2:Hid (TokBox w2 w.heap.size 0 0 ⟨#[]⟩ 0):=zb ((uD hg2 _ (zp HN.out) (by have:=HLT.out;omega)).trans HN.out);obtain⟨c0,c1,c2,c3,cf⟩:=HN2.out.cells;have f0:=cf 0;have f1:=cf 1;have f2:=cf 2;have f3:=cf 3;have hl:=zp HN2.out;unfold tokVal tokAgg;clear cf hp2 hg2 HRD HN HB1
  go_wp2_with fail
  have HS:=zb (tok_put HN2.out HP2.out HG2.out (Nat.le_refl _) HLT.out t.1.kind (t.2:Nat) ⟨t.1.text.toArray⟩ t.1.n rfl);unfold tokSet at HS;generalize World.setCell _ _ _=w9 at *;obtain⟨d0,d1,d2,d3,_⟩:=HS.out.1.cells;refine bodyPost_ret (v:=tokVal t) (by simp [results, Tryz.results210,go_sem,d0,d1,d2,d3,tokVal,tokAgg]) rfl (.inl ⟨HBE.out,rfl,HS.out.2⟩)
theorem ud (k a n:Int) (s:ByteArray) (w:World):(Instr.field 69 (.agg #[.int .i64 k,.int .i64 a,.string s,.int .i64 n]) 2).run Tryz.prog w=.ok (.string s) w:=by kernel_rfl
theorem vQ (p:Nat) (t:Tok) (R:List Tok) (w:World) (h:PAt w p (t::R)):Calls Tryz.prog 211 #[.pointer (some ⟨p,0,none⟩)] w (NameIs p t R w):=by
 obtain⟨g,off,cap,c0,f0,h1,h2,h3,k0,k1,k2,k3⟩:=h.view;have hp:=h.lt;have HP:=zb h;have HR:=zb (fun (hx:t.1.kind≠0)=>xx h.row hx);have g1:(0:Int)<((R.length:Int)+1):=by omega
 clear h;by_cases hk:t.1.kind=1
 . have HK:Hid (isKind 1 t=true):=zb (by unfold isKind;exact decide_eq_true hk);obtain⟨u,S,rfl⟩:=HR.out (by omega);have HRD:=zb (vB p t u S w HP.out (by omega));have B1:(t.1.kind != 1)=false:=by rw[bne_eq_false_iff_eq];exact hk
   clear HP HR hk;generalize (u::S).length=n at *
   go_enter Tryz.func211, Tryz.ntmps211
   go_wp2_with fail
   refine HRD.out.mono ?_;rintro e w2 ⟨rfl,hp2,hg2⟩;have HP2:=zb hp2;have HG2:=zb hg2;unfold tokVal tokAgg;have hfd:=fun W=>ud t.1.kind (t.2:Nat) t.1.n ⟨t.1.text.toArray⟩ W;clear hp2 hg2 HRD c0 k0 k1 k2 k3
   go_wp2_with fail
   go_ret;exact .inl ⟨HK.out,rfl,HP2.out,HG2.out⟩
 . have HK:Hid (isKind 1 t=false):=zb (by unfold isKind;exact decide_eq_false hk);have HRF:=zb (th p t R w HP.out);have B1:(t.1.kind != 1)=true:=by rw[bne_iff_ne];exact hk
   clear HP HR hk;generalize R.length=n at *
   go_enter Tryz.func211, Tryz.ntmps211
   go_wp2_with fail
   refine HRF.out.mono ?_;rintro e w2 ⟨rfl,hb2⟩;have HB2:=zb hb2;clear hb2 HRF;unfold faultV
   go_wp2_with fail
   exact⟨rfl,.inr ⟨HK.out,rfl,HB2.out⟩⟩
end
section
open Go.RowKit
theorem vK {w:World} (o o' o'':Obj):Below w.heap.size w (((w.alloc o).alloc o').alloc o''):=(zB o o').alloc (by simp;omega) o''
structure Keep (a:World) (p:Nat) (R:List Tok) (w:World):Prop where
 at_:PAt w p R
 grown:a.grownBy w (some p)
theorem Keep.start {w:World} {p:Nat} {R:List Tok} (h:PAt w p R):Keep w p R w:=⟨h,World.grownBy.refl _ _⟩
theorem Keep.below {a w w':World} {p:Nat} {R:List Tok} (h:Keep a p R w) (hb:Below w.heap.size w w'):Keep a p R w':=⟨h.at_.below hb,zr h.grown hb⟩
theorem Keep.trans {a w w':World} {p:Nat} {R S:List Tok} (h:Keep a p R w) (k:Keep w p S w'):Keep a p S w':=⟨k.at_,zo h.grown k.grown⟩
theorem Keep.set {a w:World} {p b:Nat} {R:List Tok} (h:Keep a p R w) (hb:a.heap.size<=b) (hp:p<b) (i:Nat) (v:Value):Keep a p R (w.setCell ⟨b,i,none⟩ v):=⟨h.at_.set hp i v,xW h.grown (.inl hb) i v⟩
theorem Keep.size {a w:World} {p:Nat} {R:List Tok} (h:Keep a p R w):a.heap.size<=w.heap.size:=h.grown.size
theorem Keep.block {a w:World} {p:Nat} {R:List Tok} (h:Keep a p R w) (b:Nat) (hb:b<a.heap.size) (hn:b≠p):w.heap[b]? = a.heap[b]? := uD h.grown b hb hn
theorem qz (w:World) (k a n:Int) (s:ByteArray):TokBox (w.alloc (.cells #[.int .i64 k,.int .i64 a,.string s,.int .i64 n] 69 (0,0))) w.heap.size k a s n:=zA w _ _ rfl
theorem TokBox.more {w w':World} {b:Nat} {k a n:Int} {s:ByteArray} (h:TokBox w b k a s n) (hb:Below w.heap.size w w'):TokBox w' b k a s n:=(hb.block b (zp h)).trans h
theorem TokBox.keep {a w:World} {p b:Nat} {R:List Tok} {k q n:Int} {s:ByteArray} (h:TokBox a b k q s n) (hk:Keep a p R w) (hn:p<b):TokBox w b k q s n:=(hk.block b (zp h) (by omega)).trans h
def Box5 (w:World) (b:Nat) (ty:TypeId) (v0 v1 v2 v3 v4:Value):Prop:=w.heap[b]? = some (.cells #[v0,v1,v2,v3,v4] ty (0,0))
def set5 (w:World) (b:Nat) (v0 v1 v2 v3 v4:Value):World:=((((w.setCell ⟨b,0,none⟩ v0).setCell ⟨b,1,none⟩ v1).setCell ⟨b,2,none⟩ v2).setCell ⟨b,3,none⟩ v3).setCell ⟨b,4,none⟩ v4
section
variable {w a w' : World} {b p : Nat} {ty : TypeId} {c0 c1 c2 c3 c4 v0 v1 v2 v3 v4 : Value} {R : List Tok}
theorem Box5.cells (h:Box5 w b ty v0 v1 v2 v3 v4):w.cell? ⟨b,0,none⟩=some v0/\w.cell? ⟨b,1,none⟩=some v1/\w.cell? ⟨b,2,none⟩=some v2/\w.cell? ⟨b,3,none⟩=some v3/\w.cell? ⟨b,4,none⟩=some v4/\∀ i,w.frozen? ⟨b,i,none⟩=false:=by
 refine⟨?_,?_,?_,?_,?_,Lib.frozen_of_heap h⟩ <;> (rw[zf h];rfl)
theorem Box5.lt (h:Box5 w b ty v0 v1 v2 v3 v4):b<w.heap.size:=zp h
theorem Box5.set (h:Box5 w b ty c0 c1 c2 c3 c4):Box5 (set5 w b v0 v1 v2 v3 v4) b ty v0 v1 v2 v3 v4:=by
 unfold Box5 at h ⊢;unfold Go.Proofs.YtblonfjlcfjodaaGreatDoor.set5;have h0:(w.setCell ⟨b,0,none⟩ v0).heap[b]? = some (.cells #[v0,c1,c2,c3,c4] ty (0,0)):=zn h 0 v0;have h1:((w.setCell ⟨b,0,none⟩ v0).setCell ⟨b,1,none⟩ v1).heap[b]? = some (.cells #[v0,v1,c2,c3,c4] ty (0,0)):=zn h0 1 v1;have h2:(((w.setCell ⟨b,0,none⟩ v0).setCell ⟨b,1,none⟩ v1).setCell ⟨b,2,none⟩ v2).heap[b]? = some (.cells #[v0,v1,v2,c3,c4] ty (0,0)):=zn h1 2 v2;have h3:((((w.setCell ⟨b,0,none⟩ v0).setCell ⟨b,1,none⟩ v1).setCell ⟨b,2,none⟩ v2).setCell ⟨b,3,none⟩ v3).heap[b]? = some (.cells #[v0,v1,v2,v3,c4] ty (0,0)):=zn h2 3 v3;have h4:(((((w.setCell ⟨b,0,none⟩ v0).setCell ⟨b,1,none⟩ v1).setCell ⟨b,2,none⟩ v2).setCell ⟨b,3,none⟩ v3).setCell ⟨b,4,none⟩ v4).heap[b]? = some (.cells #[v0,v1,v2,v3,v4] ty (0,0)):=zn h3 4 v4;exact h4
theorem Box5.below {w w':World} (h:Box5 w b ty v0 v1 v2 v3 v4) (hb:Below w.heap.size w w'):Box5 w' b ty v0 v1 v2 v3 v4:=(hb.block b (zp h)).trans h
theorem Box5.keep (h:Box5 a b ty v0 v1 v2 v3 v4) (hk:Keep a p R w) (hn:p<b):Box5 w b ty v0 v1 v2 v3 v4:=(hk.block b (zp h) (by omega)).trans h
theorem zew {j:Nat} (hj:j≠b):(set5 w b v0 v1 v2 v3 v4).heap[j]? = w.heap[j]? := by
 unfold set5;rw[Below.heap_setCell _ _ _ _ hj,Below.heap_setCell _ _ _ _ hj,Below.heap_setCell _ _ _ _ hj,Below.heap_setCell _ _ _ _ hj,Below.heap_setCell _ _ _ _ hj]
theorem zd6 {B:Nat} (h:Below B a w) (hb:B<=b):Below B a (set5 w b v0 v1 v2 v3 v4):=by
 unfold set5;exact(((((h.setCell (p:=⟨b,0,none⟩) hb _).setCell (p:=⟨b,1,none⟩) hb _).setCell (p:=⟨b,2,none⟩) hb _).setCell (p:=⟨b,3,none⟩) hb _).setCell (p:=⟨b,4,none⟩) hb _)
theorem Box5.stored (h:Box5 w b ty c0 c1 c2 c3 c4) {B:Nat} (hk:Below B a w) (hb:B<=b) (he:set5 w b v0 v1 v2 v3 v4=w'):Box5 w' b ty v0 v1 v2 v3 v4/\Below B a w'/\∀ j,j≠b->w'.heap[j]? = w.heap[j]? := by
 subst he;exact⟨h.set,zd6 hk hb,fun j hj=>zew hj⟩
end
def Box7 (w:World) (b:Nat) (ty:TypeId) (v0 v1 v2 v3 v4 v5 v6:Value):Prop:=w.heap[b]? = some (.cells #[v0,v1,v2,v3,v4,v5,v6] ty (0,0))
def set7 (w:World) (b:Nat) (v0 v1 v2 v3 v4 v5 v6:Value):World:=((((((w.setCell ⟨b,0,none⟩ v0).setCell ⟨b,1,none⟩ v1).setCell ⟨b,2,none⟩ v2).setCell ⟨b,3,none⟩ v3).setCell ⟨b,4,none⟩ v4).setCell ⟨b,5,none⟩ v5).setCell ⟨b,6,none⟩ v6
section
variable {w a w' : World} {b p : Nat} {ty : TypeId} {c0 c1 c2 c3 c4 c5 c6 v0 v1 v2 v3 v4 v5 v6 : Value} {R : List Tok}
theorem Box7.cells (h:Box7 w b ty v0 v1 v2 v3 v4 v5 v6):w.cell? ⟨b,0,none⟩=some v0/\w.cell? ⟨b,1,none⟩=some v1/\w.cell? ⟨b,2,none⟩=some v2/\w.cell? ⟨b,3,none⟩=some v3/\w.cell? ⟨b,4,none⟩=some v4/\w.cell? ⟨b,5,none⟩=some v5/\w.cell? ⟨b,6,none⟩=some v6/\∀ i,w.frozen? ⟨b,i,none⟩=false:=by
 refine⟨?_,?_,?_,?_,?_,?_,?_,Lib.frozen_of_heap h⟩ <;> (rw[zf h];rfl)
theorem Box7.lt (h:Box7 w b ty v0 v1 v2 v3 v4 v5 v6):b<w.heap.size:=zp h
theorem Box7.set (h:Box7 w b ty c0 c1 c2 c3 c4 c5 c6):Box7 (set7 w b v0 v1 v2 v3 v4 v5 v6) b ty v0 v1 v2 v3 v4 v5 v6:=by
 unfold Box7 at h ⊢;unfold Go.Proofs.YtblonfjlcfjodaaGreatDoor.set7;have h0:(w.setCell ⟨b,0,none⟩ v0).heap[b]? = some (.cells #[v0,c1,c2,c3,c4,c5,c6] ty (0,0)):=zn h 0 v0;have h1:((w.setCell ⟨b,0,none⟩ v0).setCell ⟨b,1,none⟩ v1).heap[b]? = some (.cells #[v0,v1,c2,c3,c4,c5,c6] ty (0,0)):=zn h0 1 v1;have h2:(((w.setCell ⟨b,0,none⟩ v0).setCell ⟨b,1,none⟩ v1).setCell ⟨b,2,none⟩ v2).heap[b]? = some (.cells #[v0,v1,v2,c3,c4,c5,c6] ty (0,0)):=zn h1 2 v2;have h3:((((w.setCell ⟨b,0,none⟩ v0).setCell ⟨b,1,none⟩ v1).setCell ⟨b,2,none⟩ v2).setCell ⟨b,3,none⟩ v3).heap[b]? = some (.cells #[v0,v1,v2,v3,c4,c5,c6] ty (0,0)):=zn h2 3 v3;have h4:(((((w.setCell ⟨b,0,none⟩ v0).setCell ⟨b,1,none⟩ v1).setCell ⟨b,2,none⟩ v2).setCell ⟨b,3,none⟩ v3).setCell ⟨b,4,none⟩ v4).heap[b]? = some (.cells #[v0,v1,v2,v3,v4,c5,c6] ty (0,0)):=zn h3 4 v4;have h5:((((((w.setCell ⟨b,0,none⟩ v0).setCell ⟨b,1,none⟩ v1).setCell ⟨b,2,none⟩ v2).setCell ⟨b,3,none⟩ v3).setCell ⟨b,4,none⟩ v4).setCell ⟨b,5,none⟩ v5).heap[b]? = some (.cells #[v0,v1,v2,v3,v4,v5,c6] ty (0,0)):=zn h4 5 v5;have h6:(((((((w.setCell ⟨b,0,none⟩ v0).setCell ⟨b,1,none⟩ v1).setCell ⟨b,2,none⟩ v2).setCell ⟨b,3,none⟩ v3).setCell ⟨b,4,none⟩ v4).setCell ⟨b,5,none⟩ v5).setCell ⟨b,6,none⟩ v6).heap[b]? = some (.cells #[v0,v1,v2,v3,v4,v5,v6] ty (0,0)):=zn h5 6 v6;exact h6
theorem Box7.below {w w':World} (h:Box7 w b ty v0 v1 v2 v3 v4 v5 v6) (hb:Below w.heap.size w w'):Box7 w' b ty v0 v1 v2 v3 v4 v5 v6:=(hb.block b (zp h)).trans h
theorem Box7.keep (h:Box7 a b ty v0 v1 v2 v3 v4 v5 v6) (hk:Keep a p R w) (hn:p<b):Box7 w b ty v0 v1 v2 v3 v4 v5 v6:=(hk.block b (zp h) (by omega)).trans h
theorem zdu {j:Nat} (hj:j≠b):(set7 w b v0 v1 v2 v3 v4 v5 v6).heap[j]? = w.heap[j]? := by
 unfold set7;rw[Below.heap_setCell _ _ _ _ hj,Below.heap_setCell _ _ _ _ hj,Below.heap_setCell _ _ _ _ hj,Below.heap_setCell _ _ _ _ hj,Below.heap_setCell _ _ _ _ hj,Below.heap_setCell _ _ _ _ hj,Below.heap_setCell _ _ _ _ hj]
theorem Keep.set7 (h:Keep a p R w) (hb:a.heap.size<=b) (hp:p<b):Keep a p R (set7 w b v0 v1 v2 v3 v4 v5 v6):=by
 unfold Go.Proofs.YtblonfjlcfjodaaGreatDoor.set7;exact(((((((h.set hb hp _ _).set hb hp _ _).set hb hp _ _).set hb hp _ _).set hb hp _ _).set hb hp _ _).set hb hp _ _)
theorem Box7.put (h:Box7 w b ty c0 c1 c2 c3 c4 c5 c6) (hk:Keep a p R w) (hb:a.heap.size<=b) (hp:p<b) (he:set7 w b v0 v1 v2 v3 v4 v5 v6=w'):Box7 w' b ty v0 v1 v2 v3 v4 v5 v6/\Keep a p R w'/\∀ j,j≠b->w'.heap[j]? = w.heap[j]? := by
 subst he;exact⟨h.set,hk.set7 hb hp,fun j hj=>zdu hj⟩
end
def Box8 (w:World) (b:Nat) (ty:TypeId) (v0 v1 v2 v3 v4 v5 v6 v7:Value):Prop:=w.heap[b]? = some (.cells #[v0,v1,v2,v3,v4,v5,v6,v7] ty (0,0))
def set8 (w:World) (b:Nat) (v0 v1 v2 v3 v4 v5 v6 v7:Value):World:=(((((((w.setCell ⟨b,0,none⟩ v0).setCell ⟨b,1,none⟩ v1).setCell ⟨b,2,none⟩ v2).setCell ⟨b,3,none⟩ v3).setCell ⟨b,4,none⟩ v4).setCell ⟨b,5,none⟩ v5).setCell ⟨b,6,none⟩ v6).setCell ⟨b,7,none⟩ v7
section
variable {w a w' : World} {b p : Nat} {ty : TypeId} {c0 c1 c2 c3 c4 c5 c6 c7 v0 v1 v2 v3 v4 v5 v6 v7 : Value} {R : List Tok}
theorem Box8.cells (h:Box8 w b ty v0 v1 v2 v3 v4 v5 v6 v7):w.cell? ⟨b,0,none⟩=some v0/\w.cell? ⟨b,1,none⟩=some v1/\w.cell? ⟨b,2,none⟩=some v2/\w.cell? ⟨b,3,none⟩=some v3/\w.cell? ⟨b,4,none⟩=some v4/\w.cell? ⟨b,5,none⟩=some v5/\w.cell? ⟨b,6,none⟩=some v6/\w.cell? ⟨b,7,none⟩=some v7/\∀ i,w.frozen? ⟨b,i,none⟩=false:=by
 refine⟨?_,?_,?_,?_,?_,?_,?_,?_,Lib.frozen_of_heap h⟩ <;> (rw[zf h];rfl)
theorem Box8.lt (h:Box8 w b ty v0 v1 v2 v3 v4 v5 v6 v7):b<w.heap.size:=zp h
theorem Box8.set (h:Box8 w b ty c0 c1 c2 c3 c4 c5 c6 c7):Box8 (set8 w b v0 v1 v2 v3 v4 v5 v6 v7) b ty v0 v1 v2 v3 v4 v5 v6 v7:=by
 unfold Box8 at h ⊢;unfold Go.Proofs.YtblonfjlcfjodaaGreatDoor.set8;have h0:(w.setCell ⟨b,0,none⟩ v0).heap[b]? = some (.cells #[v0,c1,c2,c3,c4,c5,c6,c7] ty (0,0)):=zn h 0 v0;have h1:((w.setCell ⟨b,0,none⟩ v0).setCell ⟨b,1,none⟩ v1).heap[b]? = some (.cells #[v0,v1,c2,c3,c4,c5,c6,c7] ty (0,0)):=zn h0 1 v1;have h2:(((w.setCell ⟨b,0,none⟩ v0).setCell ⟨b,1,none⟩ v1).setCell ⟨b,2,none⟩ v2).heap[b]? = some (.cells #[v0,v1,v2,c3,c4,c5,c6,c7] ty (0,0)):=zn h1 2 v2;have h3:((((w.setCell ⟨b,0,none⟩ v0).setCell ⟨b,1,none⟩ v1).setCell ⟨b,2,none⟩ v2).setCell ⟨b,3,none⟩ v3).heap[b]? = some (.cells #[v0,v1,v2,v3,c4,c5,c6,c7] ty (0,0)):=zn h2 3 v3;have h4:(((((w.setCell ⟨b,0,none⟩ v0).setCell ⟨b,1,none⟩ v1).setCell ⟨b,2,none⟩ v2).setCell ⟨b,3,none⟩ v3).setCell ⟨b,4,none⟩ v4).heap[b]? = some (.cells #[v0,v1,v2,v3,v4,c5,c6,c7] ty (0,0)):=zn h3 4 v4;have h5:((((((w.setCell ⟨b,0,none⟩ v0).setCell ⟨b,1,none⟩ v1).setCell ⟨b,2,none⟩ v2).setCell ⟨b,3,none⟩ v3).setCell ⟨b,4,none⟩ v4).setCell ⟨b,5,none⟩ v5).heap[b]? = some (.cells #[v0,v1,v2,v3,v4,v5,c6,c7] ty (0,0)):=zn h4 5 v5;have h6:(((((((w.setCell ⟨b,0,none⟩ v0).setCell ⟨b,1,none⟩ v1).setCell ⟨b,2,none⟩ v2).setCell ⟨b,3,none⟩ v3).setCell ⟨b,4,none⟩ v4).setCell ⟨b,5,none⟩ v5).setCell ⟨b,6,none⟩ v6).heap[b]? = some (.cells #[v0,v1,v2,v3,v4,v5,v6,c7] ty (0,0)):=zn h5 6 v6;have h7:((((((((w.setCell ⟨b,0,none⟩ v0).setCell ⟨b,1,none⟩ v1).setCell ⟨b,2,none⟩ v2).setCell ⟨b,3,none⟩ v3).setCell ⟨b,4,none⟩ v4).setCell ⟨b,5,none⟩ v5).setCell ⟨b,6,none⟩ v6).setCell ⟨b,7,none⟩ v7).heap[b]? = some (.cells #[v0,v1,v2,v3,v4,v5,v6,v7] ty (0,0)):=zn h6 7 v7;exact h7
theorem Box8.below {w w':World} (h:Box8 w b ty v0 v1 v2 v3 v4 v5 v6 v7) (hb:Below w.heap.size w w'):Box8 w' b ty v0 v1 v2 v3 v4 v5 v6 v7:=(hb.block b (zp h)).trans h
theorem Box8.keep (h:Box8 a b ty v0 v1 v2 v3 v4 v5 v6 v7) (hk:Keep a p R w) (hn:p<b):Box8 w b ty v0 v1 v2 v3 v4 v5 v6 v7:=(hk.block b (zp h) (by omega)).trans h
theorem wW {j:Nat} (hj:j≠b):(set8 w b v0 v1 v2 v3 v4 v5 v6 v7).heap[j]? = w.heap[j]? := by
 unfold set8;rw[Below.heap_setCell _ _ _ _ hj,Below.heap_setCell _ _ _ _ hj,Below.heap_setCell _ _ _ _ hj,Below.heap_setCell _ _ _ _ hj,Below.heap_setCell _ _ _ _ hj,Below.heap_setCell _ _ _ _ hj,Below.heap_setCell _ _ _ _ hj,Below.heap_setCell _ _ _ _ hj]
theorem Keep.set8 (h:Keep a p R w) (hb:a.heap.size<=b) (hp:p<b):Keep a p R (set8 w b v0 v1 v2 v3 v4 v5 v6 v7):=by
 unfold Go.Proofs.YtblonfjlcfjodaaGreatDoor.set8;exact((((((((h.set hb hp _ _).set hb hp _ _).set hb hp _ _).set hb hp _ _).set hb hp _ _).set hb hp _ _).set hb hp _ _).set hb hp _ _)
theorem rT {B:Nat} (h:Below B a w) (hb:B<=b):Below B a (set8 w b v0 v1 v2 v3 v4 v5 v6 v7):=by
 unfold set8;exact((((((((h.setCell (p:=⟨b,0,none⟩) hb _).setCell (p:=⟨b,1,none⟩) hb _).setCell (p:=⟨b,2,none⟩) hb _).setCell (p:=⟨b,3,none⟩) hb _).setCell (p:=⟨b,4,none⟩) hb _).setCell (p:=⟨b,5,none⟩) hb _).setCell (p:=⟨b,6,none⟩) hb _).setCell (p:=⟨b,7,none⟩) hb _)
theorem Box8.put (h:Box8 w b ty c0 c1 c2 c3 c4 c5 c6 c7) (hk:Keep a p R w) (hb:a.heap.size<=b) (hp:p<b) (he:set8 w b v0 v1 v2 v3 v4 v5 v6 v7=w'):Box8 w' b ty v0 v1 v2 v3 v4 v5 v6 v7/\Keep a p R w'/\∀ j,j≠b->w'.heap[j]? = w.heap[j]? := by
 subst he;exact⟨h.set,hk.set8 hb hp,fun j hj=>wW hj⟩
theorem Box8.stored (h:Box8 w b ty c0 c1 c2 c3 c4 c5 c6 c7) {B:Nat} (hk:Below B a w) (hb:B<=b) (he:set8 w b v0 v1 v2 v3 v4 v5 v6 v7=w'):Box8 w' b ty v0 v1 v2 v3 v4 v5 v6 v7/\Below B a w'/\∀ j,j≠b->w'.heap[j]? = w.heap[j]? := by
 subst he;exact⟨h.set,rT hk hb,fun j hj=>wW hj⟩
end
end
