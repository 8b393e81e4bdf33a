/-
  Plain facts: what is read of any text can be told.
-/
import Derived.Test.YtigbapkdpaahjaaGreatDoorGTol
namespace Go.Proofs.YtigbapkdpaahjaaGreatDoor
set_option linter.unusedSimpArgs false
set_option linter.unusedVariables false
open Go.RowKit
def PrE (x:Nd):Prop:=∃ s,showE x=some s
def PrP (x:Nd):Prop:=∃ s,showP x=some s
def PrF (x:Nd):Prop:=∃ s,showF [x]=some s
def Pr (f:List UInt8) (x:Sn):Prop:=∃ s,formV f x=some s
theorem xI {c:UInt8} {f:List UInt8} {x y:Sn} {t:List UInt8} (h:stepV c.toNat x=some (t,y)) (hf:Pr f y):Pr (c::f) x:=by
 obtain⟨s,hs⟩:=hf
 exact⟨t++s,by rw[formV,h];simp only[hs];rfl⟩
theorem zK:∀{l f:List UInt8} {x:Sn},l.all litC=true→Pr f x→Pr (l++f) x
 | [],_,_,_,h=>h
 | c::l,f,x,hl,h=>by
  rw[List.all_cons,Bool.and_eq_true] at hl
  exact xI (zaw hl.1 x) (zK hl.2 h)
theorem zU {l:List UInt8} (hl:l.all litC=true):Pr l ⟨[],0,[],[],[],[]⟩:=by
 have:=zK (f:=[]) hl (x:=⟨[],0,[],[],[],[]⟩) ⟨[],rfl⟩
 rwa [List.append_nil] at this
section
variable {f nm st : List UInt8} {n : Int} {ls : List (List UInt8)} {az ar : List (Option (List UInt8))}
theorem pr_x (hn:isNam nm=true) (h:Pr f ⟨[],n,st,ls,az,ar⟩):Pr (120::f) ⟨nm,n,st,ls,az,ar⟩:=xI (t:=nm) (show(if isNam nm then some (nm,(⟨[],n,st,ls,az,ar⟩:Sn)) else none)=_ from if_pos hn) h
theorem pr_X (hn:isUpN nm=true) (h:Pr f ⟨[],n,st,ls,az,ar⟩):Pr (88::f) ⟨nm,n,st,ls,az,ar⟩:=xI (t:=nm) (show(if isUpN nm then some (nm,(⟨[],n,st,ls,az,ar⟩:Sn)) else none)=_ from if_pos hn) h
theorem pr_N (hn:0≤n∧n<4611686018427387904) (h:Pr f ⟨nm,0,st,ls,az,ar⟩):Pr (78::f) ⟨nm,n,st,ls,az,ar⟩:=xI (t:=Lib.itoa n) (show(if 0≤n∧n<4611686018427387904 then some (Lib.itoa n,(⟨nm,0,st,ls,az,ar⟩:Sn)) else none)=_ from if_pos hn) h
theorem pr_T (hn:n=0∨n=1) (h:Pr f ⟨nm,0,st,ls,az,ar⟩):Pr (84::f) ⟨nm,n,st,ls,az,ar⟩:=by
 rcases hn with rfl | rfl
 · exact xI (t:=[102,97,108,115,101]) rfl h
 · exact xI (t:=[116,114,117,101]) rfl h
theorem pr_S (h:Pr f ⟨nm,n,[],ls,az,ar⟩):Pr (83::f) ⟨nm,n,st,ls,az,ar⟩:=xI (t:=qall (st.take 4096)) rfl h
theorem pr_A {c:UInt8} (hc:c=65∨c=66∨c=67) {a:Option (List UInt8)} {l:List (Option (List UInt8))} (ha:∃ s,a=some s) (h:Pr f ⟨nm,n,st,ls,l,ar⟩):Pr (c::f) ⟨nm,n,st,ls,a::l,ar⟩:=by
 obtain⟨s,rfl⟩:=ha
 rcases hc with rfl | rfl | rfl <;> exact xI (t:=s) rfl h
theorem zaQ:∀{more:Bool} {ls:List (List UInt8)} {az:List (Option (List UInt8))},ls.length=az.length→(∀ l∈ls,isNam l=true)→(∀ a∈az,∃ s,a=some s)→∃ t,fieldsV more ls az=some (t,[])
 | _,[],[],_,_,_=>⟨[],rfl⟩
 | _,[],_::_,h,_,_=>by cases h
 | _,_::_,[],h,_,_=>by cases h
 | more,l::ls,a::az,h,hn,ha=>by
  obtain⟨s,rfl⟩:=ha a (by simp)
  obtain⟨t,ht⟩:=zaQ (more:=true) (ls:=ls) (az:=az) (by simpa using h) (fun x hx=>hn x (by simp [hx])) (fun x hx=>ha x (by simp [hx]))
  exact⟨_,by rw[fieldsV,if_pos (hn l (by simp)),ht];rfl⟩
theorem pr_L (h1:ls.length=az.length) (h2:∀ l∈ls,isNam l=true) (h3:∀ a∈az,∃ s,a=some s) (h:Pr f ⟨nm,n,st,[],[],ar⟩):Pr (76::f) ⟨nm,n,st,ls,az,ar⟩:=by
 obtain⟨t,ht⟩:=zaQ (more:=false) h1 h2 h3
 exact xI (t:=t) (show((fieldsV false ls az).map fun p=>(p.1,(⟨nm,n,st,[],p.2,ar⟩:Sn)))=_ by rw[ht];rfl) h
theorem pr_arms:∀{more:Bool} {ar:List (Option (List UInt8))},(∀ a∈ar,∃ s,a=some s)→∃ t,armsV more ar=some t
 | _,[],_=>⟨[],rfl⟩
 | more,a::ar,h=>by
  obtain⟨s,rfl⟩:=h a (by simp)
  obtain⟨t,ht⟩:=pr_arms (more:=true) (ar:=ar) fun x hx=>h x (by simp [hx])
  exact⟨_,by rw[armsV,ht];rfl⟩
theorem pr_M (hne:ar≠[]) (h3:∀ a∈ar,∃ s,a=some s) (h:Pr f ⟨nm,n,st,ls,az,[]⟩):Pr (77::f) ⟨nm,n,st,ls,az,ar⟩:=by
 obtain⟨t,ht⟩:=pr_arms (more:=false) h3
 exact xI (t:=t) (show(if ar=[] then none else(armsV false ar).map fun t=>(t,(⟨nm,n,st,ls,az,[]⟩:Sn)))=_ by rw[if_neg hne,ht];rfl) h
end
theorem uw {f:List UInt8} {x:Sn} (hf:f≠[]) (h:Pr f x):∃ s,putV f x=some s:=by
 unfold putV
 rw[if_neg hf];exact h
theorem zZ {k pos n:Int} {nm st:List UInt8} {ls:List (List UInt8)} {args:List Nd} {arms:List (Nd×Nd)} {f:List UInt8} (h19:k≠19) (h10:k≠10) (hf:pickV k exprForms=f) (hne:f≠[]) (h:Pr f ⟨nm,n,st,ls,args.map showE,arms.map fun q=>armV (showP q.1) (showE q.2)⟩):PrE (.mk ⟨k,pos,nm,n,st,ls⟩ args arms):=by
 show ∃ s,exprV ⟨k,pos,nm,n,st,ls⟩ (showEs args) (showAs arms) (showF args)=some s
 unfold exprV
 rw[if_neg h19,hf,if_neg h10,yf,yd]
 exact uw hne h
theorem xb {pos n:Int} {nm st:List UInt8} {ls:List (List UInt8)} {args:List Nd} {arms:List (Nd×Nd)} {f:List UInt8} (hf:pickV n opForms=f) (hne:f≠[]) (h:Pr f ⟨nm,0,st,ls,args.map showE,arms.map fun q=>armV (showP q.1) (showE q.2)⟩):PrE (.mk ⟨19,pos,nm,n,st,ls⟩ args arms):=by
 show ∃ s,exprV ⟨19,pos,nm,n,st,ls⟩ (showEs args) (showAs arms) (showF args)=some s
 unfold exprV
 rw[if_pos rfl,hf,yf,yd]
 exact uw hne h
theorem wP {k pos n:Int} {nm st:List UInt8} {ls:List (List UInt8)} {args:List Nd} {arms:List (Nd×Nd)} {f:List UInt8} (h2:¬(k=2∧nm=[95])) (h3:¬(k=3∧n<0)) (hf:pickV k patForms=f) (hne:f≠[]) (h:Pr f ⟨nm,n,st,ls,args.map showP,[]⟩):PrP (.mk ⟨k,pos,nm,n,st,ls⟩ args arms):=by
 show ∃ s,patV ⟨k,pos,nm,n,st,ls⟩ (showPs args)=some s
 unfold patV
 rw[if_neg h2,if_neg h3,hf,xD]
 exact uw hne h
structure TokG (t:Tok):Prop where
 nam:t.1.kind=1→isNam t.1.text=true
 up:t.1.kind=2∨t.1.kind=3→isUpN t.1.text=true
 int:t.1.kind=4→0≤t.1.n∧t.1.n<4611686018427387904
theorem nam_of {c:UInt8} {r:List UInt8} (hc:isLow c=true) (hk:isKey (nameOf (c::r))=false):isNam (nameOf (c::r))=true:=by
 unfold isNam
 rw[xM,hk,zw (re hc)]
 simp [hc]
theorem up_of {c:UInt8} {r:List UInt8} (hc:isUp c=true):isUpN (nameOf (c::r))=true:=by
 rw[zw (v8 hc)]
 show(decide (65≤c.toNat)&&decide (c.toNat≤90)&&isNam (95::nameOf r))=true
 have h1:(decide (65≤c.toNat)&&decide (c.toNat≤90))=true:=hc
 rw[h1,Bool.true_and]
 have h2:nameOf (95::r)=95::nameOf r:=zw (by decide) r
 rw[← h2]
 refine nam_of (by decide) ?_
 rw[h2]
 have:∀ l∈keyL,l.head?≠some 95:=by decide
 cases hk:isKey (95::nameOf r) with
 | false=>rfl
 | true =>
  unfold isKey at hk
  exact absurd rfl (this _ (by simpa using hk))
theorem wZ {k n:Int} {tx:List UInt8} {q:Nat} (h1:k=1→isNam tx=true) (h2:k=2∨k=3→isUpN tx=true) (h4:k=4→0≤n∧n<4611686018427387904):TokG (⟨k,tx,n⟩,q):=⟨h1,h2,h4⟩
theorem oneV_good {l:List UInt8} {t:TK} {n:Nat} (h:oneV l=.tok t n):TokG (t,0):=by
 cases l with
 | nil=>cases h
 | cons c r =>
  rw[zC] at h
  split at h
  · rename_i hc
    obtain⟨rfl,rfl⟩:=OneR.tok.inj h
    by_cases hk:isKey (nameOf (c::r))=true
    · rw[if_pos hk]
      exact wZ (fun h=>absurd h (by decide)) (fun h=>absurd h (by decide)) (fun h=>absurd h (by decide))
    · rw[if_neg hk]
      exact wZ (fun _=>nam_of hc (by simpa using hk)) (fun h=>absurd h (by decide)) (fun h=>absurd h (by decide))
  split at h
  · rename_i hc
    obtain⟨rfl,rfl⟩:=OneR.tok.inj h
    exact wZ (fun h=>absurd h (by decide)) (fun _=>up_of hc) (fun h=>absurd h (by decide))
  split at h
  · unfold tagTok at h
    split at h
    · rename_i hc
      obtain⟨rfl,rfl⟩:=OneR.tok.inj h
      cases r with
      | nil=>cases hc
      | cons d r=>exact wZ (fun h=>absurd h (by decide)) (fun _=>up_of hc) (fun h=>absurd h (by decide))
    · cases h
  split at h
  · unfold intTok at h
    split at h
    · rename_i he
      obtain⟨rfl,rfl⟩:=OneR.tok.inj h
      refine wZ (fun h=>absurd h (by decide)) (fun h=>absurd h (by decide)) (fun _=>?_)
      have h1:ReadV (nameOf (c::r))=((ReadV (nameOf (c::r))).1,0):=by rw[← he]
      have h2:=rg h1
      have h3:=vH (nameOf (c::r))
      show 0≤(ReadV (nameOf (c::r))).1∧(ReadV (nameOf (c::r))).1<4611686018427387904
      omega
    · cases h
  split at h
  · unfold strTok at h
    split at h
    · obtain⟨rfl,rfl⟩:=OneR.tok.inj h
      exact wZ (fun h=>absurd h (by decide)) (fun h=>absurd h (by decide)) (fun h=>absurd h (by decide))
    · cases h
  · unfold signTok at h
    split at h
    · obtain⟨rfl,rfl⟩:=OneR.tok.inj h
      exact wZ (fun h=>absurd h (by decide)) (fun h=>absurd h (by decide)) (fun h=>absurd h (by decide))
    · cases h
theorem zee (p:Nat) (l:List UInt8):∀ T,lexGo p 0 l=.ok T→∀ x∈T,TokG x:=by
 refine yu (fun p l=>∀ T,lexGo p 0 l=.ok T→∀ x∈T,TokG x) ?_ ?_ ?_ ?_ l.length p l (Nat.le_refl _)
 · intro p T h x hx
   obtain rfl:[]=T:=LR.ok.inj h
   cases hx
 · intro p c r hc ih T h
   rw[zN hc] at h
   exact ih T h
 · intro p c r e hc h T hT
   rw[yi hc _ h] at hT;cases hT
 · intro p c r t n hc h ih T hT x hx
   rw[zY hc _ h] at hT
   obtain⟨U,hU,rfl⟩:=LR.add_ok hT
   rcases List.mem_append.1 hx with hx | hx
   · obtain rfl:=List.mem_singleton.1 hx
     obtain⟨h1,h2,h3⟩:=oneV_good h
     exact⟨h1,h2,h3⟩
   · exact ih U hU x hx
def Md.keeps:Md→Prop
 | .cases k _=>k=16∨k=17
 | .arms l=>∀ q∈l,PrP q.1∧PrE q.2
 | .lvl _ e | .apps e | .dots e=>PrE e
 | .posts _ l=>∀ x∈l,PrE x
 | .field b ls l=>ls.length=l.length∧(∀ x∈ls,isNam x=true)∧∀ x∈l,if b=true then PrE x else PrP x
 | _=>True
def Md.tells:Md→Nd→Prop
 | .fn,x=>PrE x∧PrF x
 | .posts n l,x=>x.args.length=l.length+n∧∀ y∈x.args,PrE y
 | .arms _,x=>x.arms≠[]∧∀ q∈x.arms,PrP q.1∧PrE q.2
 | .fields b,x | .field b _ _,x=>x.hd.labels.length=x.args.length∧(∀ l∈x.hd.labels,isNam l=true)∧∀ y∈x.args,if b=true then PrE y else PrP y
 | .pat,x | .patom,x=>PrP x
 | _,x=>PrE x
def PM.told (o:Md):PM→Prop
 | .ret x=>o.tells x
 | .fail=>True
 | .call m k=>m.keeps∧∀ x,m.tells x→PM.told o (k x)
 | .acc p yes no=>(∀ t,p t=true→TokG t→PM.told o (yes t))∧PM.told o no
 | .look _ yes no=>PM.told o yes∧PM.told o no
 | .look2 _ _ yes no=>PM.told o yes∧PM.told o no
theorem xj {o:Md} {rec:Md→List Tok→PR} (hr:∀ m T x R,m.keeps→(∀ t∈T,TokG t)→rec m T=.ok x R→m.tells x∧∀ t∈R,TokG t):∀(pm:PM) (T:List Tok),pm.told o→(∀ t∈T,TokG t)→∀ x R,exec rec pm T=.ok x R→o.tells x∧∀ t∈R,TokG t
 | .ret y,T,h,hT,x,R,he=>by
  obtain⟨rfl,rfl⟩:=PR.ok.inj he
  exact⟨h,hT⟩
 | .fail,_,_,_,_,_,he=>by cases he
 | .call m k,T,h,hT,x,R,he=>by
  rw[exec] at he
  cases hm:rec m T with
  | ok y U =>
   rw[hm] at he
   obtain⟨h1,h2⟩:=hr m T y U h.1 hT hm
   exact xj hr (k y) U (h.2 y h1) h2 x R he
  | bad U=>rw[hm] at he;cases he
  | out=>rw[hm] at he;cases he
 | .acc p yes no,[],h,hT,x,R,he=>by cases he
 | .acc p yes no,t::U,h,hT,x,R,he=>by
  rw[exec] at he
  split at he
  · rename_i hp
    exact xj hr (yes t) U (h.1 t hp (hT t (by simp))) (fun u hu=>hT u (by simp [hu])) x R he
  · exact xj hr no (t::U) h.2 hT x R he
 | .look p yes no,[],h,hT,x,R,he=>by cases he
 | .look p yes no,t::U,h,hT,x,R,he=>by
  rw[exec] at he
  split at he
  · exact xj hr yes (t::U) h.1 hT x R he
  · exact xj hr no (t::U) h.2 hT x R he
 | .look2 p q yes no,[],h,hT,x,R,he=>by cases he
 | .look2 p q yes no,t::U,h,hT,x,R,he=>by
  rw[exec] at he
  split at he
  · exact xj hr yes (t::U) h.1 hT x R he
  · exact xj hr no (t::U) h.2 hT x R he
theorem wl {l:List (List UInt8)} {t:Tok} (h:isOne l t=true):t.1.text∈l:=by
 unfold isOne at h
 rw[Bool.and_eq_true] at h
 simpa using h.2
theorem xV {k:Int} {t:Tok} (h:isKind k t=true):t.1.kind=k:=of_decide_eq_true h
theorem yx {o:Md} {p:Prop} [Decidable p] {x y:PM} (hx:p→x.told o) (hy:¬p→y.told o):(if p then x else y).told o:=by
 split
 · rename_i h;exact hx h
 · rename_i h;exact hy h
theorem yn {a b:Nd} (ha:PrE a) (hb:PrE b) (l1 l2 l0:List UInt8) (g0:l0.all litC=true) (g1:l1.all litC=true) (g2:l2.all litC=true):Pr (l0++65::(l1++66::l2)) ⟨[],0,[],[],[a,b].map showE,([]:List (Nd×Nd)).map fun q=>armV (showP q.1) (showE q.2)⟩ :=
 zK g0 (pr_A (.inl rfl) ha (zK g1 (pr_A (.inr (.inl rfl)) hb (zU g2))))
theorem xh {a:Nd} (ha:PrE a) (l0 l1:List UInt8) (g0:l0.all litC=true) (g1:l1.all litC=true):Pr (l0++65::l1) ⟨[],0,[],[],[a].map showE,([]:List (Nd×Nd)).map fun q=>armV (showP q.1) (showE q.2)⟩ :=
 zK g0 (pr_A (.inl rfl) ha (zU g1))
theorem pr_all3 {a b c:Nd} (ha:PrE a) (hb:PrE b) (hc:PrE c) (l0 l1 l2 l3:List UInt8) (g0:l0.all litC=true) (g1:l1.all litC=true) (g2:l2.all litC=true) (g3:l3.all litC=true):Pr (l0++65::(l1++66::(l2++67::l3))) ⟨[],0,[],[],[a,b,c].map showE,([]:List (Nd×Nd)).map fun q=>armV (showP q.1) (showE q.2)⟩ :=
 zK g0 (pr_A (.inl rfl) ha (zK g1 (pr_A (.inr (.inl rfl)) hb (zK g2 (pr_A (.inr (.inr rfl)) hc (zU g3))))))
theorem zbo {t:Tok} {a b:Nd} (h:t.1.text∈[sAssign,sEq,sLess,sPlus,sMinus,sTimes,sOver,sRem]) (ha:PrE a) (hb:PrE b):PrE (node 19 t [a,b]):=by
 unfold node nodeN
 simp only[List.mem_cons,List.not_mem_nil,or_false] at h
 rcases h with h | h | h | h | h | h | h | h
 · rw[h];exact xb (n:=12) (f:=[40]++65::([32,58,61,32]++66::[41])) rfl (by decide) (yn ha hb _ _ _ (by decide) (by decide) (by decide))
 · rw[h];exact xb (n:=7) (f:=[40]++65::([32,61,32]++66::[41])) rfl (by decide) (yn ha hb _ _ _ (by decide) (by decide) (by decide))
 · rw[h];exact xb (n:=8) (f:=[40]++65::([32,60,32]++66::[41])) rfl (by decide) (yn ha hb _ _ _ (by decide) (by decide) (by decide))
 · rw[h];exact xb (n:=1) (f:=[40]++65::([32,43,32]++66::[41])) rfl (by decide) (yn ha hb _ _ _ (by decide) (by decide) (by decide))
 · rw[h];exact xb (n:=2) (f:=[40]++65::([32,45,32]++66::[41])) rfl (by decide) (yn ha hb _ _ _ (by decide) (by decide) (by decide))
 · rw[h];exact xb (n:=3) (f:=[40]++65::([32,42,32]++66::[41])) rfl (by decide) (yn ha hb _ _ _ (by decide) (by decide) (by decide))
 · rw[h];exact xb (n:=4) (f:=[40]++65::([32,47,32]++66::[41])) rfl (by decide) (yn ha hb _ _ _ (by decide) (by decide) (by decide))
 · rw[h];exact xb (n:=5) (f:=[40]++65::([32,37,32]++66::[41])) rfl (by decide) (yn ha hb _ _ _ (by decide) (by decide) (by decide))
theorem pr_word1 {t:Tok} {L:List Nd} (h:t.1.text∈word1) (hl:L.length=1) (ha:∀ y∈L,PrE y):PrE (node 19 t L):=by
 match L,hl with
 | [a],_ =>
  have ha:=ha a (by simp)
  unfold node nodeN
  simp only[word1,List.mem_cons,List.not_mem_nil,or_false] at h
  rcases h with h | h | h | h | h
  · rw[h];exact xb (n:=10) (f:=[40,114,101,102,32]++65::[41]) rfl (by decide) (xh ha _ _ (by decide) (by decide))
  · rw[h];exact xb (n:=16) (f:=[40,108,101,110,32]++65::[41]) rfl (by decide) (xh ha _ _ (by decide) (by decide))
  · rw[h];exact xb (n:=17) (f:=[40,115,105,122,101,32]++65::[41]) rfl (by decide) (xh ha _ _ (by decide) (by decide))
  · rw[h];exact xb (n:=20) (f:=[40,103,101,116,99,32]++65::[41]) rfl (by decide) (xh ha _ _ (by decide) (by decide))
  · rw[h];exact xb (n:=21) (f:=[40,112,117,116,99,32]++65::[41]) rfl (by decide) (xh ha _ _ (by decide) (by decide))
theorem pr_word2 {t:Tok} {L:List Nd} (h:t.1.text∈word2) (hl:L.length=2) (ha:∀ y∈L,PrE y):PrE (node 19 t L):=by
 match L,hl with
 | [a,b],_ =>
  have hb:=ha b (by simp)
  have ha:=ha a (by simp)
  unfold node nodeN
  simp only[word2,List.mem_cons,List.not_mem_nil,or_false] at h
  rcases h with h | h | h | h
  · rw[h];exact xb (n:=13) (f:=[40,97,114,114,97,121,32]++65::([32]++66::[41])) rfl (by decide) (yn ha hb _ _ _ (by decide) (by decide) (by decide))
  · rw[h];exact xb (n:=14) (f:=[40,103,101,116,32]++65::([32]++66::[41])) rfl (by decide) (yn ha hb _ _ _ (by decide) (by decide) (by decide))
  · rw[h];exact xb (n:=18) (f:=[40,98,121,116,101,32]++65::([32]++66::[41])) rfl (by decide) (yn ha hb _ _ _ (by decide) (by decide) (by decide))
  · rw[h];exact xb (n:=19) (f:=[40,99,97,116,32]++65::([32]++66::[41])) rfl (by decide) (yn ha hb _ _ _ (by decide) (by decide) (by decide))
theorem pr_word3 {t:Tok} {L:List Nd} (h:t.1.text∈word3) (hl:L.length=3) (ha:∀ y∈L,PrE y):PrE (node 19 t L):=by
 match L,hl with
 | [a,b,c],_ =>
  have hb:=ha b (by simp)
  have hc:=ha c (by simp)
  have ha:=ha a (by simp)
  unfold node nodeN
  simp only[word3,List.mem_cons,List.not_mem_nil,or_false] at h
  rw[h];exact xb (n:=15) (f:=[40,115,101,116,32]++65::([32]++66::([32]++67::[41]))) rfl (by decide) (pr_all3 ha hb hc _ _ _ _ (by decide) (by decide) (by decide) (by decide))
theorem leaf_is {t:Tok} (h:isLeaf t=true):t.1.kind=1∨t.1.kind=2∨t.1.kind=4∨t.1.kind=5∨(t.1.kind=7∨t.1.kind=6):=by
 unfold isLeaf isTruth isKind isOne at h
 simp only[Bool.or_eq_true,Bool.and_eq_true,decide_eq_true_eq] at h
 rcases h with (((h | h) | h) | h) | (h | h) <;> omega
theorem pr_leafE {t:Tok} (h:isLeaf t=true) (g:TokG t):PrE (leafE t):=by
 have hk:=leaf_is h
 unfold leafE
 by_cases h1:t.1.kind=1
 · rw[if_pos h1];exact zZ (f:=[120]) (by decide) (by decide) rfl (by decide) (pr_x (g.nam h1) (zU (l:=[]) rfl))
 rw[if_neg h1]
 by_cases h2:t.1.kind=2
 · rw[if_pos h2];exact zZ (f:=[88]) (by decide) (by decide) rfl (by decide) (pr_X (g.up (.inl h2)) (zU (l:=[]) rfl))
 rw[if_neg h2]
 by_cases h4:t.1.kind=4
 · rw[if_pos h4];exact zZ (f:=[78]) (by decide) (by decide) rfl (by decide) (pr_N (g.int h4) (zU (l:=[]) rfl))
 rw[if_neg h4]
 by_cases h5:t.1.kind=5
 · rw[if_pos h5];exact zZ (f:=[83]) (by decide) (by decide) rfl (by decide) (pr_S (zU (l:=[]) rfl))
 rw[if_neg h5]
 exact zZ (f:=[84]) (by decide) (by decide) rfl (by decide) (pr_T (by split <;> simp) (zU (l:=[]) rfl))
theorem pr_leafP {t:Tok} (h:isLeaf t=true) (g:TokG t):PrP (leafP t):=by
 have hk:=leaf_is h
 unfold leafP
 by_cases h1:t.1.kind=1
 · rw[if_pos h1]
   by_cases hu:t.1.text=[95]
   · rw[if_pos hu];exact wP (f:=[95]) (by decide) (by decide) rfl (by decide) (zU (l:=[95]) (by decide))
   · rw[if_neg hu];exact wP (f:=[120]) (fun h=>hu h.2) (fun h=>absurd h.1 (by decide)) rfl (by decide) (pr_x (g.nam h1) (zU (l:=[]) rfl))
 rw[if_neg h1]
 by_cases h2:t.1.kind=2
 · rw[if_pos h2];exact wP (f:=[88]) (fun h=>absurd h.1 (by decide)) (fun h=>absurd h.1 (by decide)) rfl (by decide) (pr_X (g.up (.inl h2)) (zU (l:=[]) rfl))
 rw[if_neg h2]
 by_cases h4:t.1.kind=4
 · rw[if_pos h4];exact wP (f:=[78]) (fun h=>absurd h.1 (by decide)) (fun h=>by have h0:=(g.int h4).1;exact absurd h.2 (by omega)) rfl (by decide) (pr_N (g.int h4) (zU (l:=[]) rfl))
 rw[if_neg h4]
 by_cases h5:t.1.kind=5
 · rw[if_pos h5];exact wP (f:=[83]) (fun h=>absurd h.1 (by decide)) (fun h=>absurd h.1 (by decide)) rfl (by decide) (pr_S (zU (l:=[]) rfl))
 rw[if_neg h5]
 exact wP (f:=[84]) (fun h=>absurd h.1 (by decide)) (fun h=>absurd h.1 (by decide)) rfl (by decide) (pr_T (by split <;> simp) (zU (l:=[]) rfl))
theorem pr_fnE {t:Tok} {x:List UInt8} {e:Nd} (hx:isNam x=true) (he:PrE e):PrE (named 7 t x [e])∧PrF (named 7 t x [e]):=by
 refine⟨zZ (f:=[40,102,117,110,32]++120::([32,45,62,32]++65::[41])) (by decide) (by decide) rfl (by decide) (zK (by decide) (pr_x hx (xh he _ _ (by decide) (by decide)))),?_⟩
 show ∃ s,funV _ (showEs [e]) (showAs [])=some s
 unfold funV
 rw[if_pos rfl,yf,yd]
 exact uw (by decide) (show Pr ([102,117,110,32]++120::([32,45,62,32]++65::[])) _ from zK (by decide) (pr_x hx (xh he _ _ (by decide) (by decide))))
theorem pr_let {t:Tok} {x:List UInt8} {a b:Nd} (hx:isNam x=true) (ha:PrE a) (hb:PrE b):PrE (named 9 t x [a,b]) :=
 zZ (f:=[40,108,101,116,32]++120::([32,61,32]++65::([32,105,110,32]++66::[41]))) (by decide) (by decide) rfl (by decide) (zK (by decide) (pr_x hx (yn ha hb _ _ _ (by decide) (by decide) (by decide))))
theorem pr_rec {t:Tok} {x:List UInt8} {a b:Nd} (hx:isNam x=true) (ha:PrF a) (hb:PrE b):PrE (named 10 t x [a,b]):=by
 have e:showF [a,b]=showF [a]:=by cases a;rfl
 show ∃ s,exprV _ (showEs [a,b]) (showAs []) (showF [a,b])=some s
 unfold exprV
 rw[if_neg (show ¬(10:Int)=19 by decide),yf,yd,e]
 refine uw (show pickV 10 exprForms≠[] by decide) (show Pr ([40,108,101,116,32,114,101,99,32]++120::([32,61,32]++65::([32,105,110,32]++66::[41]))) ⟨x,0,[],[],[showF [a],showE b],[]⟩ from ?_)
 exact zK (by decide) (pr_x hx (zK (by decide) (pr_A (.inl rfl) ha (zK (by decide) (pr_A (.inr (.inl rfl)) hb (zU (by decide)))))))
theorem step_told (m:Md) (hm:m.keeps):(step m).told m:=by
 cases m
 case text=>exact⟨trivial,fun x hx=>⟨hx,trivial⟩⟩
 case seq=>exact⟨trivial,fun a ha=>⟨fun t ht _=>⟨trivial,fun b hb=>zZ (f:=[40]++65::([59,32]++66::[41])) (by decide) (by decide) rfl (by decide) (yn ha hb _ _ _ (by decide) (by decide) (by decide))⟩,ha⟩⟩
 case item =>
  refine⟨⟨trivial,fun x hx=>hx.1⟩,fun t ht _=>?_,trivial,fun x hx=>hx⟩
  refine yx (fun _=>⟨trivial,fun x hx=>hx⟩) fun _=>yx (fun _=>⟨.inl rfl,fun x hx=>hx⟩) fun _=>yx (fun _=>⟨.inr rfl,fun x hx=>hx⟩) fun _=>yx (fun _=>⟨trivial,fun x hx=>hx⟩) fun _=>⟨trivial,fun x hx=>?_⟩
  exact zZ (f:=[40,114,97,105,115,101,32]++65::[41]) (by decide) (by decide) rfl (by decide) (xh hx _ _ (by decide) (by decide))
 case fn=>exact⟨fun t _ _=>⟨fun u hu gu=>⟨fun v _ _=>⟨trivial,fun e he=>pr_fnE (gu.nam (xV hu)) he⟩,trivial⟩,trivial⟩,trivial⟩
 case letb t=>exact⟨fun _ _ _=>⟨fun u hu gu=>⟨fun v _ _=>⟨trivial,fun a ha=>⟨fun w _ _=>⟨trivial,fun b hb=>pr_rec (gu.nam (xV hu)) ha.2 hb⟩,trivial⟩⟩,trivial⟩,trivial⟩,⟨fun u hu gu=>⟨fun v _ _=>⟨trivial,fun a ha=>⟨fun w _ _=>⟨trivial,fun b hb=>pr_let (gu.nam (xV hu)) ha hb⟩,trivial⟩⟩,trivial⟩,trivial⟩⟩
 case cases k t =>
  refine⟨trivial,fun e he=>⟨fun u _ _=>⟨fun q hq=>(by cases hq),fun r hr=>?_⟩,trivial⟩⟩
  have h3:∀ a∈r.arms.map (fun q=>armV (showP q.1) (showE q.2)),∃ s,a=some s:=fun a ha=>by
   obtain⟨q,hq,rfl⟩:=List.mem_map.1 ha
   obtain⟨⟨s,hs⟩,⟨u,hu⟩⟩:=hr.2 q hq
   exact⟨_,by rw[hs,hu];rfl⟩
  have hne:r.arms.map (fun q=>armV (showP q.1) (showE q.2))≠[]:=fun h=>hr.1 (by simpa using h)
  rcases hm with rfl | rfl
  · exact zZ (f:=[40,109,97,116,99,104,32]++65::([32,119,105,116,104,32]++77::[32,101,110,100,41])) (by decide) (by decide) rfl (by decide) (zK (by decide) (pr_A (.inl rfl) he (zK (by decide) (pr_M hne h3 (zU (by decide))))))
  · exact zZ (f:=[40,116,114,121,32]++65::([32,119,105,116,104,32]++77::[32,101,110,100,41])) (by decide) (by decide) rfl (by decide) (zK (by decide) (pr_A (.inl rfl) he (zK (by decide) (pr_M hne h3 (zU (by decide))))))
 case arms l =>
  have hl:∀ p b,PrP p→PrE b→∀ q∈l++[(p,b)],PrP q.1∧PrE q.2:=fun p b hp hb q hq=>by
   rcases List.mem_append.1 hq with hq | hq
   · exact hm q hq
   · obtain rfl:=List.mem_singleton.1 hq
     exact⟨hp,hb⟩
  exact⟨trivial,fun p hp=>⟨fun t _ _=>⟨trivial,fun b hb=>⟨fun u _ _=>yx (fun _=>⟨fun h=>(by simp [bag,Nd.arms] at h),hl p b hp hb⟩) fun _=>⟨hl p b hp hb,fun x hx=>hx⟩,trivial⟩⟩,trivial⟩⟩
 case choice t=>exact⟨trivial,fun a ha=>⟨fun _ _ _=>⟨trivial,fun b hb=>⟨fun _ _ _=>⟨trivial,fun c hc=>zZ (f:=[40,105,102,32]++65::([32,116,104,101,110,32]++66::([32,101,108,115,101,32]++67::[41]))) (by decide) (by decide) rfl (by decide) (pr_all3 ha hb hc _ _ _ _ (by decide) (by decide) (by decide) (by decide))⟩,trivial⟩⟩,trivial⟩⟩
 case asg=>exact⟨trivial,fun a ha=>⟨fun t ht _=>⟨trivial,fun b hb=>zbo (by have:=wl ht;simp only[List.mem_cons,List.not_mem_nil,or_false] at this;simp [this]) ha hb⟩,ha⟩⟩
 case level n=>exact yx (fun _=>⟨trivial,fun x hx=>hx⟩) fun _=>⟨trivial,fun x hx=>⟨hx,fun y hy=>hy⟩⟩
 case lvl n a =>
  refine⟨fun t ht _=>?_,hm⟩
  have ht:=wl ht
  refine yx (fun h2=>⟨trivial,fun b hb=>zbo ?_ hm hb⟩) fun h2=>yx (fun h2'=>⟨trivial,fun b hb=>?_⟩) fun h2'=>⟨trivial,fun b hb=>⟨zbo ?_ hm hb,fun x hx=>hx⟩⟩
  · subst h2
    simp only[signsOf,List.mem_cons,List.not_mem_nil,or_false] at ht
    rcases ht with h | h <;> simp [h]
  · split
    · exact zZ (f:=[40]++65::([32,124,124,32]++66::[41])) (by decide) (by decide) rfl (by decide) (yn hm hb _ _ _ (by decide) (by decide) (by decide))
    · exact zZ (f:=[40]++65::([32,38,38,32]++66::[41])) (by decide) (by decide) rfl (by decide) (yn hm hb _ _ _ (by decide) (by decide) (by decide))
  · match n,h2,h2',ht with
    | 3,_,_,ht =>
     simp only[signsOf,List.mem_cons,List.not_mem_nil,or_false] at ht
     rcases ht with h | h <;> simp [h]
    | k+4,_,_,ht =>
     simp only[signsOf,List.mem_cons,List.not_mem_nil,or_false] at ht
     rcases ht with h | h | h <;> simp [h]
    | 0,_,h2',_=>exact absurd (by decide) h2'
    | 1,_,h2',_=>exact absurd (by decide) h2'
    | 2,h2,_,_=>exact absurd rfl h2
 case unary =>
  refine⟨fun t ht _=>⟨trivial,fun a ha=>?_⟩,trivial,fun x hx=>hx⟩
  have ht:=wl ht
  simp only[List.mem_cons,List.not_mem_nil,or_false] at ht
  show PrE (nodeN 19 t [] (if t.1.text=sMinus then 6 else opOf t.1.text) [a])
  unfold nodeN
  rcases ht with h | h
  · rw[h];exact xb (n:=6) (f:=[40,45,32]++65::[41]) rfl (by decide) (xh ha _ _ (by decide) (by decide))
  · rw[h];exact xb (n:=9) (f:=[40,110,111,116,32]++65::[41]) rfl (by decide) (xh ha _ _ (by decide) (by decide))
 case app =>
  refine⟨fun t ht gt=>⟨trivial,fun a ha=>?_⟩,⟨fun t ht _=>⟨fun x hx=>(by cases hx),fun r hr=>pr_word1 (wl ht) hr.1 hr.2⟩,⟨fun t ht _=>⟨fun x hx=>(by cases hx),fun r hr=>pr_word2 (wl ht) hr.1 hr.2⟩,⟨fun t ht _=>⟨fun x hx=>(by cases hx),fun r hr=>pr_word3 (wl ht) hr.1 hr.2⟩,trivial,fun x hx=>⟨hx,fun y hy=>hy⟩⟩⟩⟩⟩
  exact zZ (f:=[40,35]++88::([32]++65::[41])) (by decide) (by decide) rfl (by decide) (zK (by decide) (pr_X (gt.up (.inr (xV ht))) (xh ha _ _ (by decide) (by decide))))
 case apps e=>exact⟨⟨trivial,fun b hb=>⟨zZ (f:=[40]++65::([32]++66::[41])) (by decide) (by decide) rfl (by decide) (yn hm hb _ _ _ (by decide) (by decide) (by decide)),fun x hx=>hx⟩⟩,hm⟩
 case posts n l =>
  refine yx (fun h=>⟨by rw[h];rfl,hm⟩) fun h=>⟨trivial,fun x hx=>⟨fun y hy=>?_,fun y hy=>⟨?_,hy.2⟩⟩⟩
  · rcases List.mem_append.1 hy with hy | hy
    · exact hm y hy
    · obtain rfl:=List.mem_singleton.1 hy
      exact hx
  · have:=hy.1
    rw[List.length_append,List.length_singleton] at this
    omega
 case post=>exact⟨fun t ht _=>⟨trivial,fun a ha=>by
  have ht:=wl ht
  simp only[List.mem_cons,List.not_mem_nil,or_false] at ht
  show PrE (node 19 t [a])
  unfold node nodeN
  rw[ht];exact xb (n:=11) (f:=[40,33,32]++65::[41]) rfl (by decide) (xh ha _ _ (by decide) (by decide))⟩,⟨trivial,fun x hx=>⟨hx,fun y hy=>hy⟩⟩⟩
 case dots e=>exact⟨fun t ht _=>⟨fun u hu gu=>⟨zZ (f:=65::([46]++120::[])) (by decide) (by decide) rfl (by decide) (pr_A (.inl rfl) hm (zK (by decide) (pr_x (gu.nam (xV hu)) (zU (l:=[]) rfl)))),fun x hx=>hx⟩,trivial⟩,hm⟩
 case atom=>exact⟨fun t ht gt=>pr_leafE ht gt,⟨fun t ht gt=>yx (fun _=>⟨trivial,fun x hx=>hx⟩) fun _=>⟨fun u _ _=>zZ (f:=[40,41]) (by decide) (by decide) rfl (by decide) (zU (by decide)),⟨trivial,fun e he=>⟨fun _ _ _=>he,trivial⟩⟩⟩,trivial⟩⟩
 case braces t =>
  have hrec:(recordB t).told (.braces t):=⟨trivial,fun r hr=>zZ (f:=[123]++76::[125]) (by decide) (by decide) rfl (by decide) (zK (by decide) (pr_L (by rw[List.length_map];exact hr.1) hr.2.1 (fun a ha=>by
   obtain⟨y,hy,rfl⟩:=List.mem_map.1 ha
   exact hr.2.2 y hy) (zU (by decide))))⟩
  exact⟨hrec,hrec,⟨trivial,fun o ho=>⟨fun _ _ _=>⟨fun u hu gu=>⟨fun _ _ _=>⟨trivial,fun v hv=>⟨fun _ _ _=>zZ (f:=[123]++65::([32,119,105,116,104,32]++120::([32,61,32]++66::[125]))) (by decide) (by decide) rfl (by decide) (zK (by decide) (pr_A (.inl rfl) ho (zK (by decide) (pr_x (gu.nam (xV hu)) (zK (by decide) (pr_A (.inr (.inl rfl)) hv (zU (by decide)))))))),trivial⟩⟩,trivial⟩,trivial⟩,trivial⟩⟩⟩
 case fields b=>exact⟨fun _ _ _=>⟨rfl,fun l hl=>(by cases hl),fun y hy=>(by cases hy)⟩,⟨⟨rfl,fun l hl=>(by cases hl),fun y hy=>(by cases hy)⟩,fun x hx=>hx⟩⟩
 case field b ls l =>
  obtain⟨h1,h2,h3⟩:=hm
  refine⟨fun u hu gu=>⟨fun _ _ _=>⟨by cases b <;> trivial,fun v hv=>⟨fun t _ _=>?_,trivial⟩⟩,trivial⟩,trivial⟩
  have hv:if b=true then PrE v else PrP v:=by cases b <;> exact hv
  have k1:(ls++[u.1.text]).length=(l++[v]).length:=by rw[List.length_append,List.length_append,h1];rfl
  have k2:∀ x∈ls++[u.1.text],isNam x=true:=fun x hx=>by
   rcases List.mem_append.1 hx with hx | hx
   · exact h2 x hx
   · obtain rfl:=List.mem_singleton.1 hx
     exact gu.nam (xV hu)
  have k3:∀ x∈l++[v],if b=true then PrE x else PrP x:=fun x hx=>by
   rcases List.mem_append.1 hx with hx | hx
   · exact h3 x hx
   · obtain rfl:=List.mem_singleton.1 hx
     exact hv
  exact yx (fun _=>⟨k1,k2,k3⟩) fun _=>⟨⟨k1,k2,k3⟩,fun x hx=>hx⟩
 case pat =>
  refine⟨fun t ht gt=>⟨trivial,fun q hq=>?_⟩,trivial,fun x hx=>hx⟩
  exact wP (f:=[40,35]++88::([32]++65::[41])) (fun h=>absurd h.1 (by decide)) (fun h=>absurd h.1 (by decide)) rfl (by decide) (zK (by decide) (pr_X (gt.up (.inr (xV ht))) (zK (by decide) (pr_A (.inl rfl) hq (zU (by decide))))))
 case patom =>
  refine⟨fun t ht gt=>pr_leafP ht gt,⟨fun t ht _=>yx (fun _=>⟨fun u hu gu=>?_,trivial⟩) fun _=>yx (fun _=>⟨trivial,fun r hr=>?_⟩) fun _=>⟨fun _ _ _=>?_,⟨trivial,fun q hq=>⟨fun _ _ _=>hq,trivial⟩⟩⟩,trivial⟩⟩
  · obtain⟨h0,h1⟩:=gu.int (xV hu)
    show ∃ s,patV ⟨3,t.2,[],-u.1.n,[],[]⟩ (showPs [])=some s
    unfold patV
    rw[if_neg (fun h=>absurd h.1 (show ¬(3:Int)=2 by decide))]
    by_cases hn:-u.1.n<0
    · rw[if_pos ⟨rfl,hn⟩,if_neg (show ¬-u.1.n=-9223372036854775808 by omega),Int.neg_neg]
      exact uw (by decide) (show Pr ([45]++78::[]) _ from zK (by decide) (pr_N ⟨h0,h1⟩ (zU (l:=[]) rfl)))
    · rw[if_neg (fun h=>hn h.2)]
      exact uw (f:=pickV 3 patForms) (by decide) (show Pr (78::[]) _ from pr_N (show 0≤-u.1.n∧-u.1.n<4611686018427387904 from⟨by omega,by omega⟩) (zU (l:=[]) rfl))
  · exact wP (f:=[123]++76::[125]) (fun h=>absurd h.1 (by decide)) (fun h=>absurd h.1 (by decide)) rfl (by decide) (zK (by decide) (pr_L (by rw[List.length_map];exact hr.1) hr.2.1 (fun a ha=>by
     obtain⟨y,hy,rfl⟩:=List.mem_map.1 ha
     exact hr.2.2 y hy) (zU (by decide))))
  · exact wP (f:=[40,41]) (fun h=>absurd h.1 (by decide)) (fun h=>absurd h.1 (by decide)) rfl (by decide) (zU (by decide))
theorem zcl:∀(f:Nat) (m:Md) (T:List Tok) (x:Nd) (R:List Tok),m.keeps→(∀ t∈T,TokG t)→run f m T=.ok x R→m.tells x∧∀ t∈R,TokG t
 | 0,_,_,_,_,_,_,h=>by cases h
 | f+1,m,T,x,R,h,hT,he=>xj (fun m T x R h hT he=>zcl f m T x R h hT he) (step m) T (step_told m h) hT x R he
theorem zd4 {l:List UInt8} {x:Nd} (h:ParseV l=.ok x):PrE x:=by
 rcases wu l with⟨e,q',h1,h2⟩ | ⟨X,hX,hl,hV,⟨z,hz,h2⟩ | ⟨A,t,B,hT,hv,h2⟩⟩
 · rw[h2] at h;cases h
 · rw[h2] at h
   have hzx:z=x:=by
    rcases wk z with h3 | h3 | ⟨_,h3⟩ <;> rw[h3] at h <;> cases h
    rfl
   subst hzx
   refine(zcl _ .text _ z _ trivial (fun t ht=>?_) hz).1
   rcases List.mem_append.1 ht with ht | ht
   · exact zee 0 l X hX t ht
   · obtain rfl:=List.mem_singleton.1 ht
     exact⟨fun h=>absurd h (by show ¬(0:Int)=1;decide),fun h=>absurd h (by show ¬((0:Int)=2∨(0:Int)=3);decide),fun h=>absurd h (by show ¬(0:Int)=4;decide)⟩
 · rw[h2] at h;cases h
theorem zcf {l:List UInt8} {x:Nd} (h:ParseV l=.ok x):(∃ t,ShowV x=(t,0))∨ShowV x=([],4):=by
 obtain⟨s,hs⟩:=zd4 h
 unfold ShowV
 rw[if_neg (by rw[zaK h];decide),hs]
 show(∃ t,(if s.length≤4096 then(s,(0:Int)) else([],4))=(t,0))∨(if s.length≤4096 then(s,(0:Int)) else([],4))=([],4)
 split
 · exact .inl ⟨s,rfl⟩
 · exact .inr rfl
