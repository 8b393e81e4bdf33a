/-
  Plain facts: a text that is told holds the texts of its parts; w.
-/
import Derived.Test.YtblonfjlcfjodaaGreatDoorGBak
import Derived.Test.YtblonfjlcfjodaaGreatDoorGShowC
import Derived.Test.YtblonfjlcfjodaaGreatDoorGBase
namespace Go.Proofs.YtblonfjlcfjodaaGreatDoor
set_option linter.unusedSimpArgs false
set_option linter.unusedVariables false
section
open Go.RowKit
structure Holds (x:Sn) (n:Nat):Prop where
 s:x.s=[]∨(qall (x.s.take 4096)).length<=n
 args:∀ a∈x.args,∃ t,a=some t/\t.length<=n
 arms:∀ a∈x.arms,∃ t,a=some t/\t.length<=n
mutual
def Nd.bareE:Nd->Prop
 | .mk h l a=>bareEs l/\bareAs a
def bareEs:List Nd->Prop
 | []=>True
 | x::r=>x.bareE/\bareEs r
def bareAs:List (Nd×Nd)->Prop
 | []=>True
 | (p,b)::r=>p.bareP/\b.bareE/\bareAs r
def Nd.bareP:Nd->Prop
 | .mk h l a=>a=[]/\barePs l
def barePs:List Nd->Prop
 | []=>True
 | x::r=>x.bareP/\barePs r
end
theorem wh:∀{l:List Nd},bareEs l->∀ x∈l,x.bareE
 | y::r,h,x,hx=>(List.mem_cons.1 hx).elim (fun e=>e▸h.1) (fun hx=>wh h.2 x hx)
theorem uE:∀{l:List Nd},barePs l->∀ x∈l,x.bareP
 | y::r,h,x,hx=>(List.mem_cons.1 hx).elim (fun e=>e▸h.1) (fun hx=>uE h.2 x hx)
theorem wn:∀{l:List (Nd×Nd)},bareAs l->∀ q∈l,q.1.bareP/\q.2.bareE
 | (p,b)::r,h,x,hx=>(List.mem_cons.1 hx).elim (fun e=>e▸⟨h.1,h.2.1⟩) (fun hx=>wn h.2.2 x hx)
mutual
theorem vO {w:World} {N:Nat->Prop}:∀{cs:List Value} {x:Nd},IsP w N cs x->x.bareP
 | cs,.mk h l a,h0=>by
  obtain⟨h1,vl,va,_,_,L,_,h5⟩:=h0;exact⟨h1,zal h5⟩
theorem zal {w:World} {N:Nat->Prop}:∀{L:List (List Value)} {r:List Nd},IsPs w N L r->barePs r
 | [],[],_=>trivial
 | _::_,_::_,h=>⟨vO h.1,zal h.2⟩
 | [],_::_,h=>h.elim
 | _::_,[],h=>h.elim
end
mutual
theorem xP {w:World} {N:Nat->Prop}:∀{cs:List Value} {x:Nd},IsE w N cs x->x.bareE
 | cs,.mk h l a,h0=>by
  obtain⟨vl,va,vr,_,_,⟨L,_,h5⟩,M,_,h7⟩:=h0;exact⟨zau h5,zav h7⟩
theorem zau {w:World} {N:Nat->Prop}:∀{L:List (List Value)} {r:List Nd},IsEs w N L r->bareEs r
 | [],[],_=>trivial
 | _::_,_::_,h=>⟨xP h.1,zau h.2⟩
 | [],_::_,h=>h.elim
 | _::_,[],h=>h.elim
theorem zav {w:World} {N:Nat->Prop}:∀{L:List (List Value)} {r:List (Nd×Nd)},IsAs w N L r->bareAs r
 | [],[],_=>trivial
 | _::_,(_,_)::_,⟨⟨_,_,_,h2,h3⟩,h4⟩=>⟨vO h2,xP h3,zav h4⟩
 | [],_::_,h=>h.elim
 | _::_,[],h=>h.elim
end
theorem lim_treeV {x:Nd} (h:treeV x=.ok x):limV x 4096 200=0:=by
 unfold treeV at h;unfold limV
 split at h
 . cases h
 . cases hd:deepV 200 x with
   | none=>rw[if_neg (by omega)];rfl
   | some q=>rw[hd] at h;cases h
end
section
open Go.RowKit
def costV (h:Hd):Nat:=h.name.length+h.s.length+1
def longL:List (List UInt8)->Int->Int
 | [],n=>n
 | t::r,n=>if 0<n then longL r (n-((t.length:Int)+1)) else n
mutual
def longP:Nd->Int->Int
 | .mk h l _,n=>longPs l (longL h.labels (n-(costV h:Int)))
def longPs:List Nd->Int->Int
 | [],n=>n
 | x::r,n=>if 0<n then longPs r (longP x n) else n
end
mutual
def longE:Nd->Int->Int
 | .mk h l a,n=>longAs a (longEs l (longL h.labels (n-(costV h:Int))))
def longEs:List Nd->Int->Int
 | [],n=>n
 | x::r,n=>if 0<n then longEs r (longE x n) else n
def longAs:List (Nd×Nd)->Int->Int
 | [],n=>n
 | (p,b)::r,n=>if 0<n then longAs r (longE b (longP p n)) else n
end
theorem vh {ls:List (List UInt8)} {n:Int} (h:¬0<n):longL ls n=n:=by
 cases ls with
 | nil=>rfl
 | cons t r=>rw[longL,if_neg h]
theorem wv {l:List Nd} {n:Int} (h:¬0<n):longPs l n=n:=by
 cases l with
 | nil=>rfl
 | cons t r=>rw[longPs,if_neg h]
theorem wo {l:List Nd} {n:Int} (h:¬0<n):longEs l n=n:=by
 cases l with
 | nil=>rfl
 | cons t r=>rw[longEs,if_neg h]
theorem wA {l:List (Nd×Nd)} {n:Int} (h:¬0<n):longAs l n=n:=by
 cases l with
 | nil=>rfl
 | cons t r=>obtain⟨p,b⟩:=t;rw[longAs,if_neg h]
theorem zao {h:Hd} (hw:h.wide):(costV h:Int)<=281474976710657:=by
 have h1:=hw.name;have h2:=hw.s;unfold costV;omega
theorem vp:∀(ls:List (List UInt8)) (n:Int),(∀ l∈ls,l.length<=140737488355328)->min n (-140737488355329)<=longL ls n/\longL ls n<=n
 | [],n,_=>⟨by rw[longL];omega,by rw[longL];omega⟩
 | t::r,n,h=>by
  rw[longL]
  split
  . have h1:=h t (by simp);have h2:=vp r (n-((t.length:Int)+1)) fun l hl=>h l (by simp [hl]);omega
  . omega
theorem vf:∀ x:Nd,x.wide->∀ n:Int,min n 0-281474976710657<=longP x n/\longP x n<=n:=by
 refine xw fun h l a hl _ hw n=>?_;obtain⟨h1,h2,_⟩:=hw;have hps:∀(l:List Nd),(∀ y∈l,y.wide/\∀ n:Int,min n 0-281474976710657<=longP y n/\longP y n<=n)->∀ n:Int,min n (-281474976710657)<=longPs l n/\longPs l n<=n:=by
  intro l
  induction l with
  | nil=>intro _ n;rw[longPs];omega
  | cons y r ih =>
   intro hy n;rw[longPs]
   split
   . have h3:=(hy y (by simp)).2 n;have h4:=ih (fun z hz=>hy z (by simp [hz])) (longP y n);omega
   . omega
 have hc:=zao h1;have h5:=vp h.labels (n-(costV h:Int)) h1.labels;have h6:=hps l (fun y hy=>⟨xG h2 y hy,hl y hy (xG h2 y hy)⟩) (longL h.labels (n-(costV h:Int)));show min n 0-281474976710657<=longPs l (longL h.labels (n-(costV h:Int)))/\longPs l (longL h.labels (n-(costV h:Int)))<=n;by_cases hn:0<n-(costV h:Int)
 . omega
 . rw[vh hn,wv hn];omega
theorem uT:∀ x:Nd,x.wide->∀ n:Int,min n 0-562949953421314<=longE x n/\longE x n<=n/\(¬0<n->n-281474976710657<=longE x n):=by
 refine xw fun h l a hl ha hw n=>?_;obtain⟨h1,h2,h3⟩:=hw;have hes:∀(l:List Nd),(∀ y∈l,∀ n:Int,min n 0-562949953421314<=longE y n/\longE y n<=n)->∀ n:Int,min n (-562949953421314)<=longEs l n/\longEs l n<=n:=by
  intro l
  induction l with
  | nil=>intro _ n;rw[longEs];omega
  | cons y r ih =>
   intro hy n;rw[longEs]
   split
   . have h3:=(hy y (by simp)) n;have h4:=ih (fun z hz=>hy z (by simp [hz])) (longE y n);omega
   . omega
 have has:∀(l:List (Nd×Nd)),(∀ q∈l,q.1.wide/\∀ n:Int,min n 0-562949953421314<=longE q.2 n/\longE q.2 n<=n/\(¬0<n->n-281474976710657<=longE q.2 n))->∀ n:Int,min n (-562949953421314)<=longAs l n/\longAs l n<=n:=by
  intro l
  induction l with
  | nil=>intro _ n;rw[longAs];omega
  | cons q r ih =>
   obtain⟨p,b⟩:=q;intro hy n;rw[longAs]
   split
   . have h2:=vf p (hy (p,b) (by simp)).1 n;have h3:=(hy (p,b) (by simp)).2 (longP p n);have h4:=ih (fun z hz=>hy z (by simp [hz])) (longE b (longP p n));dsimp only at h3;by_cases h5:0<longP p n
     . omega
     . have:=h3.2.2 h5;omega
   . omega
 have hc:=zao h1;have h5:=vp h.labels (n-(costV h:Int)) h1.labels;have h6:=hes l (fun y hy m=>⟨(hl y hy (xG h2 y hy) m).1,(hl y hy (xG h2 y hy) m).2.1⟩) (longL h.labels (n-(costV h:Int)));have h7:=has a (fun q hq=>⟨(xY h3 q hq).1,(ha q hq).2 (xY h3 q hq).2⟩) (longEs l (longL h.labels (n-(costV h:Int))));show min n 0-562949953421314<=longAs a (longEs l (longL h.labels (n-(costV h:Int))))/\longAs a (longEs l (longL h.labels (n-(costV h:Int))))<=n/\(¬0<n->n-281474976710657<=longAs a (longEs l (longL h.labels (n-(costV h:Int)))));by_cases hn:0<n-(costV h:Int)
 . refine⟨by omega,by omega,fun h=>by omega⟩
 . rw[vh hn,wo hn,wA hn];refine⟨by omega,by omega,fun h=>by omega⟩
def wtL:List (List UInt8)->Nat
 | []=>0
 | t::r=>t.length+1+wtL r
mutual
def Nd.wt:Nd->Nat
 | .mk h l a=>costV h+wtL h.labels+wtN l+wtA a
def wtN:List Nd->Nat
 | []=>0
 | x::r=>x.wt+wtN r
def wtA:List (Nd×Nd)->Nat
 | []=>0
 | (p,b)::r=>p.wt+b.wt+wtA r
end
theorem rA:∀(ls:List (List UInt8)) (n:Int),0<longL ls n->longL ls n=n-(wtL ls:Int)
 | [],n,_=>by rw[longL,wtL];omega
 | t::r,n,h=>by
  rw[longL] at h ⊢
  split at h
  . rename_i hn;rw[if_pos hn,rA r _ h,wtL];omega
  . rename_i hn;exact absurd h hn
theorem zcJ:∀ x:Nd,x.bareP->∀ n:Int,0<longP x n->longP x n=n-(x.wt:Int):=by
 refine xw fun h l a hl _ hb n hn=>?_;obtain⟨rfl,hb⟩:=hb;have hps:∀(l:List Nd),(∀ y∈l,∀ n:Int,0<longP y n->longP y n=n-(y.wt:Int))->∀ n:Int,0<longPs l n->longPs l n=n-(wtN l:Int):=by
  intro l
  induction l with
  | nil=>intro _ n _;rw[longPs,wtN];omega
  | cons y r ih =>
   intro hy n hn;rw[longPs] at hn ⊢
   split at hn
   . rename_i h0;by_cases h1:0<longP y n
     . rw[if_pos h0,ih (fun z hz=>hy z (by simp [hz])) _ hn,hy y (by simp) n h1,wtN];omega
     . rw[wv h1] at hn;exact absurd hn h1
   . rename_i h0;exact absurd hn h0
 have hn:0<longPs l (longL h.labels (n-(costV h:Int))):=hn;have h1:=hps l (fun y hy=>hl y hy (uE hb y hy)) _ hn;by_cases h2:0<longL h.labels (n-(costV h:Int))
 . show longPs l (longL h.labels (n-(costV h:Int)))=n-((costV h+wtL h.labels+wtN l+wtA []:Nat):Int);rw[h1,rA _ _ h2,wtA];omega
 . rw[wv h2] at hn;exact absurd hn h2
theorem zgn:∀ x:Nd,x.bareE->∀ n:Int,0<longE x n->longE x n=n-(x.wt:Int):=by
 refine xw fun h l a hl ha hb n hn=>?_;obtain⟨hb,hb2⟩:=hb;have hes:∀(l:List Nd),(∀ y∈l,∀ n:Int,0<longE y n->longE y n=n-(y.wt:Int))->∀ n:Int,0<longEs l n->longEs l n=n-(wtN l:Int):=by
  intro l
  induction l with
  | nil=>intro _ n _;rw[longEs,wtN];omega
  | cons y r ih =>
   intro hy n hn;rw[longEs] at hn ⊢
   split at hn
   . rename_i h0;by_cases h1:0<longE y n
     . rw[if_pos h0,ih (fun z hz=>hy z (by simp [hz])) _ hn,hy y (by simp) n h1,wtN];omega
     . rw[wo h1] at hn;exact absurd hn h1
   . rename_i h0;exact absurd hn h0
 have hle:∀(q:Nd) (n:Int),longE q n<=n:=by
  refine xw fun h l a hl ha n=>?_;have e1:∀(l:List Nd),(∀ y∈l,∀ n:Int,longE y n<=n)->∀ n:Int,longEs l n<=n:=by
   intro l
   induction l with
   | nil=>intro _ n;rw[longEs];omega
   | cons y r ih =>
    intro hy n;rw[longEs]
    split
    . have h1:=hy y (by simp) n;have h2:=ih (fun z hz=>hy z (by simp [hz])) (longE y n);omega
    . omega
  have e0:∀(ls:List (List UInt8)) (n:Int),longL ls n<=n:=by
   intro ls
   induction ls with
   | nil=>intro n;rw[longL];omega
   | cons t r ih =>
    intro n;rw[longL]
    split
    . have:=ih (n-((t.length:Int)+1));omega
    . omega
  have ep:∀(q:Nd) (n:Int),longP q n<=n:=by
   refine xw fun h l a hl ha n=>?_;have e1:∀(l:List Nd),(∀ y∈l,∀ n:Int,longP y n<=n)->∀ n:Int,longPs l n<=n:=by
    intro l
    induction l with
    | nil=>intro _ n;rw[longPs];omega
    | cons y r ih =>
     intro hy n;rw[longPs]
     split
     . have h1:=hy y (by simp) n;have h2:=ih (fun z hz=>hy z (by simp [hz])) (longP y n);omega
     . omega
   have h1:=e0 h.labels (n-(costV h:Int));have h2:=e1 l hl (longL h.labels (n-(costV h:Int)));show longPs l (longL h.labels (n-(costV h:Int)))<=n;omega
  have e2:∀(l:List (Nd×Nd)),(∀ q∈l,∀ n:Int,longE q.2 n<=n)->∀ n:Int,longAs l n<=n:=by
   intro l
   induction l with
   | nil=>intro _ n;rw[longAs];omega
   | cons q r ih =>
    obtain⟨p,b⟩:=q;intro hy n;rw[longAs]
    split
    . have h0:=ep p n;have h1:=hy (p,b) (by simp) (longP p n);have h2:=ih (fun z hz=>hy z (by simp [hz])) (longE b (longP p n));dsimp only at h1;omega
    . omega
  have h1:=e0 h.labels (n-(costV h:Int));have h2:=e1 l hl (longL h.labels (n-(costV h:Int)));have h3:=e2 a (fun q hq=>(ha q hq).2) (longEs l (longL h.labels (n-(costV h:Int))));show longAs a (longEs l (longL h.labels (n-(costV h:Int))))<=n;omega
 have has:∀(l:List (Nd×Nd)),(∀ q∈l,q.1.bareP/\∀ n:Int,0<longE q.2 n->longE q.2 n=n-(q.2.wt:Int))->∀ n:Int,0<longAs l n->longAs l n=n-(wtA l:Int):=by
  intro l
  induction l with
  | nil=>intro _ n _;rw[longAs,wtA];omega
  | cons q r ih =>
   obtain⟨p,b⟩:=q;intro hy n hn;rw[longAs] at hn ⊢
   split at hn
   . rename_i h0;by_cases h1:0<longE b (longP p n)
     . have h2:=hle b (longP p n);have h5:longE b (longP p n)=longP p n-(b.wt:Int):=(hy (p,b) (by simp)).2 _ h1;rw[if_pos h0,ih (fun z hz=>hy z (by simp [hz])) _ hn,h5,zcJ p (hy (p,b) (by simp)).1 n (by omega),wtA];omega
     . rw[wA h1] at hn;exact absurd hn h1
   . rename_i h0;exact absurd hn h0
 have hn:0<longAs a (longEs l (longL h.labels (n-(costV h:Int)))):=hn;have h3:=has a (fun q hq=>⟨(wn hb2 q hq).1,(ha q hq).2 (wn hb2 q hq).2⟩) _ hn;by_cases h4:0<longEs l (longL h.labels (n-(costV h:Int)))
 . have h1:=hes l (fun y hy=>hl y hy (wh hb y hy)) _ h4;by_cases h2:0<longL h.labels (n-(costV h:Int))
   . show longAs a (longEs l (longL h.labels (n-(costV h:Int))))=n-((costV h+wtL h.labels+wtN l+wtA a:Nat):Int);rw[h3,h1,rA _ _ h2];omega
   . rw[wo h2] at h4;exact absurd h4 h2
 . rw[wA h4] at hn;exact absurd hn h4
theorem ze2:∀{ls:List (List UInt8)} {l:List UInt8},l∈ls->l.length<wtL ls
 | t::r,l,h=>by
  rw[wtL];rcases List.mem_cons.1 h with rfl | h
  . omega
  . have:=ze2 h;omega
theorem zg7:∀ ls:List (List UInt8),ls.length<=wtL ls
 | []=>Nat.le_refl _
 | t::r=>by have:=zg7 r;rw[wtL,List.length_cons];omega
theorem Nd.wt_pos (x:Nd):1<=x.wt:=by
 cases x with
 | mk h l a=>show 1<=costV h+wtL h.labels+wtN l+wtA a;unfold costV;omega
theorem zg1:∀ l:List Nd,l.length<=wtN l
 | []=>Nat.le_refl _
 | x::r=>by have:=zg1 r;have:=x.wt_pos;rw[wtN,List.length_cons];omega
theorem zg2:∀ l:List (Nd×Nd),l.length<=wtA l
 | []=>Nat.le_refl _
 | (p,b)::r=>by have:=zg2 r;have:=p.wt_pos;rw[wtA,List.length_cons];omega
theorem zeN:∀{l:List Nd} {x:Nd},x∈l->x.wt<=wtN l
 | y::r,x,h=>by
  rw[wtN];rcases List.mem_cons.1 h with rfl | h
  . omega
  . have:=zeN h;omega
theorem zeZ:∀{l:List (Nd×Nd)} {q:Nd×Nd},q∈l->q.1.wt+q.2.wt<=wtA l
 | (p,b)::r,q,h=>by
  rw[wtA];rcases List.mem_cons.1 h with rfl | h
  . show p.wt+b.wt<=_;omega
  . have:=zeZ h;omega
mutual
theorem vI (d:Nat):∀ x:Nd,(x.parts d).length<=x.wt
 | .mk h l a=>by
  show((h.pos,d)::(partsN (d+1) l++partsA (d+1) a)).length<=costV h+wtL h.labels+wtN l+wtA a;have h1:=zar (d+1) l;have h2:=za1 (d+1) a;rw[List.length_cons,List.length_append];unfold costV;omega
theorem zar (d:Nat):∀ l:List Nd,(partsN d l).length<=wtN l
 | []=>Nat.le_refl _
 | x::r=>by
  show(x.parts d++partsN d r).length<=x.wt+wtN r;have h1:=vI d x;have h2:=zar d r;rw[List.length_append];omega
theorem za1 (d:Nat):∀ l:List (Nd×Nd),(partsA d l).length<=wtA l
 | []=>Nat.le_refl _
 | (p,b)::r=>by
  show(p.parts d++(b.parts d++partsA d r)).length<=p.wt+b.wt+wtA r;have h1:=vI d p;have h2:=vI d b;have h3:=za1 d r;rw[List.length_append,List.length_append];omega
end
theorem zbb:∀{l:List Nd},(∀ x∈l,x.fit)->fitN l
 | [],_=>trivial
 | x::r,h=>⟨h x (by simp),zbb fun y hy=>h y (by simp [hy])⟩
theorem zbh:∀{l:List (Nd×Nd)},(∀ x∈l,x.1.fit/\x.2.fit)->fitA l
 | [],_=>trivial
 | (p,b)::r,h=>⟨(h (p,b) (by simp)).1,(h (p,b) (by simp)).2,zbh fun y hy=>h y (by simp [hy])⟩
theorem zgf:∀ x:Nd,x.wide->x.wt<=65536->x.fit:=by
 refine xw fun h l a hl ha hw hn=>?_;obtain⟨h1,h2,h3⟩:=hw;have hn:costV h+wtL h.labels+wtN l+wtA a<=65536:=hn;have e1:=zg7 h.labels;have e2:=zg1 l;have e3:=zg2 a;have e4:costV h=h.name.length+h.s.length+1:=rfl;refine⟨⟨by omega,by omega,by omega,fun t ht=>?_,h1.n.1,h1.n.2⟩,by omega,by omega,zbb fun x hx=>?_,zbh fun q hq=>?_⟩
 . have:=ze2 ht;omega
 . have:=zeN hx;exact hl x hx (xG h2 x hx) (by omega)
 . have:=zeZ hq;exact⟨(ha q hq).1 (xY h3 q hq).1 (by omega),(ha q hq).2 (xY h3 q hq).2 (by omega)⟩
theorem zaP {x:Nd} (hw:x.wide) (hb:x.bareE) (h:0<longE x 65536):x.fit/\(x.parts 1).length<=70000:=by
 have h1:=zgn x hb 65536 h;have h2:=vI 1 x;exact⟨zgf x hw (by omega),by omega⟩
theorem zac {x:Nd} (hw:x.wide) (hb:x.bareP) (h:0<longP x 65536):x.fit/\x.wt<=65536:=by
 have h1:=zcJ x hb 65536 h;exact⟨zgf x hw (by omega),by omega⟩
end
section
open Go.RowKit
def small (l:List UInt8):Prop:=l.length<=4096
def smalls (l:List (List UInt8)):Prop:=∀ x∈l,small x
def rng (n:Int):Prop:=-9223372036854775808<=n/\n<=9223372036854775807
def tame (h:Hd):Prop:=small h.name/\small h.s/\smalls h.labels/\rng h.n
theorem yU:small []:=by unfold small;simp
theorem xC:smalls []:=fun x hx=>by cases hx
theorem zcd {l:List (List UInt8)} {x:List UInt8} (h:smalls l) (hx:small x):smalls (l++[x]):=fun y hy=>by
 rcases List.mem_append.1 hy with hy | hy
 . exact h y hy
 . obtain rfl:=List.mem_singleton.1 hy;exact hx
theorem xA (n:Int) (h:(decide (-9223372036854775808<=n)&&decide (n<=9223372036854775807))=true):rng n:=by
 rw[Bool.and_eq_true,decide_eq_true_eq,decide_eq_true_eq] at h;exact h
theorem rng_ite {p:Prop} [Decidable p] {a b:Int} (ha:rng a) (hb:rng b):rng (if p then a else b):=by
 split
 . exact ha
 . exact hb
theorem zcO (x:List UInt8):rng (opOf x):=by
 unfold opOf
 repeat' refine rng_ite ?_ ?_
 all_goals exact xA _ (by decide)
mutual
def Nd.tm:Nd->Prop
 | .mk h l a=>tame h/\h.labels.length<=l.length/\tmN l/\tmA a
def tmN:List Nd->Prop
 | []=>True
 | x::r=>x.tm/\tmN r
def tmA:List (Nd×Nd)->Prop
 | []=>True
 | (p,b)::r=>p.tm/\b.tm/\tmA r
end
theorem rQ (l r:List Nd):tmN (l++r)↔tmN l/\tmN r:=by
 induction l with
 | nil=>show tmN r↔True/\tmN r;simp
 | cons x l ih=>show x.tm/\tmN (l++r)↔(x.tm/\tmN l)/\tmN r;rw[ih,and_assoc]
theorem zdD (l r:List (Nd×Nd)):tmA (l++r)↔tmA l/\tmA r:=by
 induction l with
 | nil=>show tmA r↔True/\tmA r;simp
 | cons x l ih=>show x.1.tm/\x.2.tm/\tmA (l++r)↔(x.1.tm/\x.2.tm/\tmA l)/\tmA r;rw[ih];simp [and_assoc]
theorem zha:∀{l:List Nd},tmN l->∀ x∈l,x.tm
 | y::r,h,x,hx=>(List.mem_cons.1 hx).elim (fun e=>e▸h.1) (fun hx=>zha h.2 x hx)
theorem zbd:∀{l:List (Nd×Nd)},tmA l->∀ q∈l,q.1.tm/\q.2.tm
 | (p,b)::r,h,x,hx=>(List.mem_cons.1 hx).elim (fun e=>e▸⟨h.1,h.2.1⟩) (fun hx=>zbd h.2.2 x hx)
def TokT (t:Tok):Prop:=small t.1.text/\0<=t.1.n/\t.1.n<=4611686018427387903
theorem zQ (k pos:Int) {n:Int} {l:List Nd} {a:List (Nd×Nd)} (hn:rng n) (hl:tmN l) (ha:tmA a):(Nd.mk ⟨k,pos,[],n,[],[]⟩ l a).tm:=⟨⟨yU,yU,xC,hn⟩,Nat.zero_le _,hl,ha⟩
theorem yN (k pos:Int) {n:Int} {nm:List UInt8} {l:List Nd} {a:List (Nd×Nd)} (hx:small nm) (hn:rng n) (hl:tmN l) (ha:tmA a):(Nd.mk ⟨k,pos,nm,n,[],[]⟩ l a).tm:=⟨⟨hx,yU,xC,hn⟩,Nat.zero_le _,hl,ha⟩
theorem tm_rec (k pos:Int) {ls:List (List UInt8)} {l:List Nd} (hs:smalls ls) (hc:ls.length=l.length) (hl:tmN l):(Nd.mk ⟨k,pos,[],0,[],ls⟩ l []).tm:=⟨⟨yU,yU,hs,show rng 0 from xA 0 (by decide)⟩,Nat.le_of_eq hc,hl,trivial⟩
theorem yC (k:Int) (x:List UInt8):rng (if k=19 then opOf x else 0):=by
 split
 . exact zcO x
 . exact xA _ (by decide)
theorem tm1 {a:Nd} (h:a.tm):tmN [a]:=⟨h,trivial⟩
theorem tm2 {a b:Nd} (h:a.tm) (h':b.tm):tmN [a,b]:=⟨h,h',trivial⟩
theorem tm3 {a b c:Nd} (h:a.tm) (h':b.tm) (h'':c.tm):tmN [a,b,c]:=⟨h,h',h'',trivial⟩
theorem leafE_tm {t:Tok} (h:TokT t):(leafE t).tm:=by
 have hn:rng t.1.n:=⟨by have:=h.2.1;omega,by have:=h.2.2;omega⟩;have z:rng 0:=xA _ (by decide);unfold leafE
 repeat' split
 . exact yN 1 _ h.1 z trivial trivial
 . exact yN 6 _ h.1 z trivial trivial
 . exact zQ 2 _ hn trivial trivial
 . exact⟨⟨yU,h.1,xC,z⟩,Nat.zero_le _,trivial,trivial⟩
 . exact zQ 4 _ (xA _ (by decide)) trivial trivial
 . exact zQ 4 _ (xA _ (by decide)) trivial trivial
theorem leafP_tm {t:Tok} (h:TokT t):(leafP t).tm:=by
 have hn:rng t.1.n:=⟨by have:=h.2.1;omega,by have:=h.2.2;omega⟩;have z:rng 0:=xA _ (by decide);unfold leafP
 repeat' split
 . exact zQ 1 _ z trivial trivial
 . exact yN 2 _ h.1 z trivial trivial
 . exact yN 7 _ h.1 z trivial trivial
 . exact zQ 3 _ hn trivial trivial
 . exact⟨⟨yU,h.1,xC,z⟩,Nat.zero_le _,trivial,trivial⟩
 . exact zQ 5 _ (xA _ (by decide)) trivial trivial
 . exact zQ 5 _ (xA _ (by decide)) trivial trivial
def Md.holdT:Md->Prop
 | .arms l=>tmA l
 | .lvl _ e | .apps e | .dots e=>e.tm
 | .posts _ l=>tmN l
 | .field _ ls l=>smalls ls/\ls.length=l.length/\tmN l
 | _=>True
def Md.madeT:Md->Nd->Prop
 | .posts _ _,x=>tmN x.args
 | .field _ _ _,x | .fields _,x=>smalls x.hd.labels/\x.hd.labels.length=x.args.length/\tmN x.args
 | .arms _,x=>tmA x.arms
 | _,x=>x.tm
def PM.tmd (o:Md):PM->Prop
 | .ret x=>o.madeT x
 | .fail=>True
 | .call m k=>m.holdT/\∀ x,m.madeT x->PM.tmd o (k x)
 | .acc p yes no=>(∀ t:Tok,TokT t->PM.tmd o (yes t))/\PM.tmd o no
 | .look _ yes no=>PM.tmd o yes/\PM.tmd o no
 | .look2 _ _ yes no=>PM.tmd o yes/\PM.tmd o no
theorem yW {o:Md} {p:Prop} [Decidable p] {x y:PM} (hx:x.tmd o) (hy:y.tmd o):(if p then x else y).tmd o:=by
 split
 . exact hx
 . exact hy
theorem step_tmd (m:Md) (hm:m.holdT):(step m).tmd m:=by
 have z:rng 0:=xA _ (by decide);cases m
 case text=>exact⟨trivial,fun x hx=>⟨hx,trivial⟩⟩
 case seq=>exact⟨trivial,fun a ha=>⟨fun t _=>⟨trivial,fun b hb=>zQ 20 _ (yC 20 _) (tm2 ha hb) trivial⟩,ha⟩⟩
 case item=>exact⟨⟨trivial,fun x hx=>hx⟩,fun t _=>yW ⟨trivial,fun x hx=>hx⟩ (yW ⟨trivial,fun x hx=>hx⟩ (yW ⟨trivial,fun x hx=>hx⟩ (yW ⟨trivial,fun x hx=>hx⟩ ⟨trivial,fun x hx=>zQ 18 _ (yC 18 _) (tm1 hx) trivial⟩))),trivial,fun x hx=>hx⟩
 case fn=>exact⟨fun t _=>⟨fun u hu=>⟨fun v _=>⟨trivial,fun e he=>yN 7 _ hu.1 (yC 7 _) (tm1 he) trivial⟩,trivial⟩,trivial⟩,trivial⟩
 case letb t=>exact⟨fun _ _=>⟨fun u hu=>⟨fun v _=>⟨trivial,fun a ha=>⟨fun w _=>⟨trivial,fun b hb=>yN 10 _ hu.1 (yC 10 _) (tm2 ha hb) trivial⟩,trivial⟩⟩,trivial⟩,trivial⟩,⟨fun u hu=>⟨fun v _=>⟨trivial,fun a ha=>⟨fun w _=>⟨trivial,fun b hb=>yN 9 _ hu.1 (yC 9 _) (tm2 ha hb) trivial⟩,trivial⟩⟩,trivial⟩,trivial⟩⟩
 case cases k t=>exact⟨trivial,fun e he=>⟨fun u _=>⟨trivial,fun r hr=>zQ k _ z (tm1 he) hr⟩,trivial⟩⟩
 case arms l =>
  have hl:∀ p b:Nd,p.tm->b.tm->tmA (l++[(p,b)]):=fun p b hp hb=>(zdD _ _).2 ⟨hm,hp,hb,trivial⟩;exact⟨trivial,fun p hp=>⟨fun t _=>⟨trivial,fun b hb=>⟨fun u _=>yW (hl p b hp hb) ⟨hl p b hp hb,fun x hx=>hx⟩,trivial⟩⟩,trivial⟩⟩
 case choice t=>exact⟨trivial,fun a ha=>⟨fun _ _=>⟨trivial,fun b hb=>⟨fun _ _=>⟨trivial,fun c hc=>zQ 11 _ (yC 11 _) (tm3 ha hb hc) trivial⟩,trivial⟩⟩,trivial⟩⟩
 case asg=>exact⟨trivial,fun a ha=>⟨fun t _=>⟨trivial,fun b hb=>zQ 19 _ (yC 19 _) (tm2 ha hb) trivial⟩,ha⟩⟩
 case level n=>exact yW ⟨trivial,fun x hx=>hx⟩ ⟨trivial,fun x hx=>⟨hx,fun y hy=>hy⟩⟩
 case lvl n a=>exact⟨fun t _=>yW ⟨trivial,fun b hb=>zQ 19 _ (yC 19 _) (tm2 hm hb) trivial⟩ (yW ⟨trivial,fun b hb=>zQ _ _ (yC _ _) (tm2 hm hb) trivial⟩ ⟨trivial,fun b hb=>⟨zQ 19 _ (yC 19 _) (tm2 hm hb) trivial,fun x hx=>hx⟩⟩),hm⟩
 case unary=>exact⟨fun t _=>⟨trivial,fun a ha=>zQ 19 _ (by split;exact xA _ (by decide);exact zcO _) (tm1 ha) trivial⟩,trivial,fun x hx=>hx⟩
 case app=>exact⟨fun t ht=>⟨trivial,fun a ha=>yN 15 _ ht.1 (yC 15 _) (tm1 ha) trivial⟩,⟨fun t _=>⟨trivial,fun r hr=>zQ 19 _ (yC 19 _) hr trivial⟩,⟨fun t _=>⟨trivial,fun r hr=>zQ 19 _ (yC 19 _) hr trivial⟩,⟨fun t _=>⟨trivial,fun r hr=>zQ 19 _ (yC 19 _) hr trivial⟩,trivial,fun x hx=>⟨hx,fun y hy=>hy⟩⟩⟩⟩⟩
 case apps e=>exact⟨⟨trivial,fun b hb=>⟨zQ 8 _ z (tm2 hm hb) trivial,fun x hx=>hx⟩⟩,hm⟩
 case posts n l=>exact yW hm ⟨trivial,fun x hx=>⟨(rQ _ _).2 ⟨hm,hx,trivial⟩,fun y hy=>hy⟩⟩
 case post=>exact⟨fun t _=>⟨trivial,fun a ha=>zQ 19 _ (yC 19 _) (tm1 ha) trivial⟩,⟨trivial,fun x hx=>⟨hx,fun y hy=>hy⟩⟩⟩
 case dots e=>exact⟨fun t _=>⟨fun u hu=>⟨yN 14 _ hu.1 (yC 14 _) (tm1 hm) trivial,fun x hx=>hx⟩,trivial⟩,hm⟩
 case atom=>exact⟨fun t ht=>leafE_tm ht,⟨fun t _=>yW ⟨trivial,fun x hx=>hx⟩ ⟨fun u _=>zQ 5 _ (yC 5 _) trivial trivial,⟨trivial,fun e he=>⟨fun _ _=>he,trivial⟩⟩⟩,trivial⟩⟩
 case braces t =>
  have hrec:(recordB t).tmd (.braces t):=⟨trivial,fun r hr=>tm_rec 12 _ hr.1 hr.2.1 hr.2.2⟩;exact⟨hrec,hrec,⟨trivial,fun o ho=>⟨fun _ _=>⟨fun u hu=>⟨fun _ _=>⟨trivial,fun v hv=>⟨fun _ _=>yN 13 _ hu.1 (yC 13 _) (tm2 ho hv) trivial,trivial⟩⟩,trivial⟩,trivial⟩,trivial⟩⟩⟩
 case fields b=>exact⟨fun _ _=>⟨xC,rfl,trivial⟩,⟨⟨xC,rfl,trivial⟩,fun x hx=>hx⟩⟩
 case field b ls l =>
  obtain⟨h1,h2,h3⟩:=hm;refine⟨fun u hu=>⟨fun _ _=>⟨by cases b <;> trivial,fun v hv=>⟨fun t _=>?_,trivial⟩⟩,trivial⟩,trivial⟩
  have hv:v.tm:=by cases b <;> exact hv
  have k1:(ls++[u.1.text]).length=(l++[v]).length:=by rw[List.length_append,List.length_append,h2];rfl
  have k2:=zcd h1 hu.1;have k3:tmN (l++[v]):=(rQ _ _).2 ⟨h3,hv,trivial⟩;exact yW ⟨k2,k1,k3⟩ ⟨⟨k2,k1,k3⟩,fun x hx=>hx⟩
 case pat=>exact⟨fun t ht=>⟨trivial,fun q hq=>yN 8 _ ht.1 z (tm1 hq) trivial⟩,trivial,fun x hx=>hx⟩
 case patom=>exact⟨fun t ht=>leafP_tm ht,⟨fun t _=>yW ⟨fun u hu=>zQ 3 _ ⟨by have:=hu.2;omega,by have:=hu.2;omega⟩ trivial trivial,trivial⟩ (yW ⟨trivial,fun r hr=>tm_rec 9 _ hr.1 hr.2.1 hr.2.2⟩ ⟨fun _ _=>zQ 6 _ z trivial trivial,⟨trivial,fun q hq=>⟨fun _ _=>hq,trivial⟩⟩⟩),trivial⟩⟩
theorem xL {o:Md} {rec:Md->List Tok->PR} (hr:∀ m T x R,m.holdT->(∀ t∈T,TokT t)->rec m T=.ok x R->m.madeT x/\∀ t∈R,TokT t):∀(pm:PM) (T:List Tok),pm.tmd o->(∀ t∈T,TokT t)->∀ x R,exec rec pm T=.ok x R->o.madeT x/\∀ t∈R,TokT t
 | .ret y,T,h,hT,x,R,he=>by
  obtain⟨rfl,rfl⟩:=PR.ok.inj he;exact⟨h,hT⟩
 | .fail,_,_,_,_,_,he=>by cases he
 | .call m k,T,h,hT,x,R,he=>by
  rw[exec] at he;cases hm:rec m T with
  | ok y U =>
   rw[hm] at he;obtain⟨h1,h2⟩:=hr m T y U h.1 hT hm;exact xL hr (k y) U (h.2 y h1) h2 x R he
  | bad U=>rw[hm] at he;cases he
  | out=>rw[hm] at he;cases he
 | .acc p yes no,[],h,hT,x,R,he=>by cases he
 | .acc p yes no,t::U,h,hT,x,R,he=>by
  rw[exec] at he
  split at he
  . exact xL hr (yes t) U (h.1 t (hT t (by simp))) (fun u hu=>hT u (by simp [hu])) x R he
  . exact xL hr no (t::U) h.2 hT x R he
 | .look p yes no,[],h,hT,x,R,he=>by cases he
 | .look p yes no,t::U,h,hT,x,R,he=>by
  rw[exec] at he
  split at he
  . exact xL hr yes (t::U) h.1 hT x R he
  . exact xL hr no (t::U) h.2 hT x R he
 | .look2 p q yes no,[],h,hT,x,R,he=>by cases he
 | .look2 p q yes no,t::U,h,hT,x,R,he=>by
  rw[exec] at he
  split at he
  . exact xL hr yes (t::U) h.1 hT x R he
  . exact xL hr no (t::U) h.2 hT x R he
theorem zgU:∀(f:Nat) (m:Md) (T:List Tok) (x:Nd) (R:List Tok),m.holdT->(∀ t∈T,TokT t)->run f m T=.ok x R->m.madeT x/\∀ t∈R,TokT t
 | 0,_,_,_,_,_,_,h=>by cases h
 | f+1,m,T,x,R,h,hT,he=>xL (fun m T x R h hT he=>zgU f m T x R h hT he) (step m) T (step_tmd m h) hT x R he
theorem tokT_of {l:List UInt8} {t:TK} {n:Nat} (h:oneV l=.tok t n) (hl:l.length<=4096):TokT (t,0):=by
 have h34:=yG h;cases l with
 | nil=>cases h
 | cons c r =>
  rw[zC] at h;have hn:=yz (c::r);have hr:=yz r;rw[List.length_cons] at hl hn;have z:∀(k:Int) (nm:List UInt8),small nm->TokT (⟨k,nm,0⟩,0):=fun k nm h=>⟨h,Int.le_refl _,by show(0:Int)<=_;decide⟩
  split at h
  . obtain⟨rfl,rfl⟩:=OneR.tok.inj h;exact z _ _ (by unfold small;omega)
  split at h
  . obtain⟨rfl,rfl⟩:=OneR.tok.inj h;exact z _ _ (by unfold small;omega)
  split at h
  . unfold tagTok at h
    split at h
    . obtain⟨rfl,rfl⟩:=OneR.tok.inj h;exact z _ _ (by unfold small;omega)
    . cases h
  split at h
  . unfold intTok at h
    split at h
    . obtain⟨rfl,rfl⟩:=OneR.tok.inj h;exact⟨yU,vH _⟩
    . cases h
  split at h
  . unfold strTok at h
    split at h
    . obtain⟨rfl,rfl⟩:=OneR.tok.inj h;refine z _ _ ?_;have h5:=congrArg List.length h34.1;have h6:tokText ⟨5,(UnqV ((c::r).take (qsize (c::r)))).1,0⟩=qall (UnqV ((c::r).take (qsize (c::r)))).1:=rfl;rw[h6,List.length_take,List.length_cons] at h5;have h7:=zb8 (UnqV ((c::r).take (qsize (c::r)))).1;unfold small;omega
    . cases h
  . unfold signTok at h
    split at h
    . rename_i s hs;obtain⟨rfl,rfl⟩:=OneR.tok.inj h;have:=(zaH s (List.mem_of_find?_eq_some hs)).2.2;exact z _ _ (by unfold small;omega)
    . cases h
theorem zev (p:Nat) (l:List UInt8):l.length<=4096->∀ T,lexGo p 0 l=.ok T->∀ x∈T,TokT x:=by
 refine yu (fun p l=>l.length<=4096->∀ T,lexGo p 0 l=.ok T->∀ x∈T,TokT x) ?_ ?_ ?_ ?_ l.length p l (Nat.le_refl _)
 . intro p _ T h x hx;obtain rfl:[]=T:=LR.ok.inj h;cases hx
 . intro p c r hc ih hl T h;rw[zN hc] at h;exact ih (by rw[List.length_cons] at hl;omega) T h
 . intro p c r e hc h hl T hT;rw[yi hc _ h] at hT;cases hT
 . intro p c r t n hc h ih hl T hT x hx;rw[zY hc _ h] at hT;obtain⟨U,hU,rfl⟩:=LR.add_ok hT;rcases List.mem_append.1 hx with hx | hx
   . obtain rfl:=List.mem_singleton.1 hx;exact tokT_of h hl
   . exact ih (by rw[List.length_drop];omega) U hU x hx
theorem zaT (d:Nat):∀ l:List Nd,l.length<=(partsN d l).length
 | []=>Nat.le_refl _
 | x::r=>by
  show r.length+1<=(x.parts d++partsN d r).length;have h1:=zaT d r;have h2:1<=(x.parts d).length:=by
   cases x with
   | mk h l a=>show 1<=((h.pos,d)::(partsN (d+1) l++partsA (d+1) a)).length;rw[List.length_cons];omega
  rw[List.length_append];omega
theorem zag (d:Nat):∀ l:List (Nd×Nd),l.length<=(partsA d l).length
 | []=>Nat.le_refl _
 | (p,b)::r=>by
  show r.length+1<=(p.parts d++(b.parts d++partsA d r)).length;have h1:=zag d r;have h2:1<=(p.parts d).length:=by
   cases p with
   | mk h l a=>show 1<=((h.pos,d)::(partsN (d+1) l++partsA (d+1) a)).length;rw[List.length_cons];omega
  rw[List.length_append,List.length_append];omega
theorem zaI (d:Nat):∀{l:List Nd} {x:Nd},x∈l->(x.parts d).length<=(partsN d l).length
 | y::r,x,h=>by
  show _<=(y.parts d++partsN d r).length;rw[List.length_append];rcases List.mem_cons.1 h with rfl | h
  . omega
  . have:=zaI d h;omega
theorem zaC (d:Nat):∀{l:List (Nd×Nd)} {q:Nd×Nd},q∈l->(q.1.parts d).length<=(partsA d l).length/\(q.2.parts d).length<=(partsA d l).length
 | (p,b)::r,q,h=>by
  show _<=(p.parts d++(b.parts d++partsA d r)).length/\_<=(p.parts d++(b.parts d++partsA d r)).length;rw[List.length_append,List.length_append];rcases List.mem_cons.1 h with rfl | h
  . show(p.parts d).length<=_/\(b.parts d).length<=_;exact⟨by omega,by omega⟩
  . have:=zaC d h;omega
theorem tm_fit:∀ x:Nd,∀ d:Nat,x.tm->(x.parts d).length<=4096->x.fit:=by
 refine xw fun h l a hl ha d hx hn=>?_;obtain⟨⟨h1,h2,h3,h4⟩,h5,h6,h7⟩:=hx;have hn:((h.pos,d)::(partsN (d+1) l++partsA (d+1) a)).length<=4096:=hn;rw[List.length_cons,List.length_append] at hn;have e1:=zaT (d+1) l;have e2:=zag (d+1) a;unfold small at h1 h2;refine⟨⟨by omega,by omega,by omega,fun t ht=>?_,h4.1,h4.2⟩,by omega,by omega,zbb fun y hy=>?_,zbh fun q hq=>?_⟩
 . have:=h3 t ht;unfold small at this;omega
 . have:=zaI (d+1) hy;exact hl y hy (d+1) (zha h6 y hy) (by omega)
 . have:=zaC (d+1) hq;exact⟨(ha q hq).1 (d+1) (zbd h7 q hq).1 (by omega),(ha q hq).2 (d+1) (zbd h7 q hq).2 (by omega)⟩
theorem zaK {l:List UInt8} {x:Nd} (h:ParseV l=.ok x):limV x 4096 200=0:=by
 rcases wu l with⟨e,q',h1,h2⟩ | ⟨X,hX,hl,hV,⟨z,hz,h2⟩ | ⟨A,t,B,hT,hv,h2⟩⟩
 . rw[h2] at h;cases h
 . rw[h2] at h;have hzx:z=x:=by
    rcases wk z with h3 | h3 | ⟨_,h3⟩ <;> rw[h3] at h <;> cases h
    rfl
   subst hzx;exact lim_treeV h
 . rw[h2] at h;cases h
theorem vV {l:List UInt8} {x:Nd} (h:ParseV l=.ok x):x.fit/\(x.parts 1).length<=70000:=by
 have hlim:=zaK h;have hp:(x.parts 1).length<=4096:=by
  unfold limV at hlim
  split at hlim
  . cases hlim
  . omega
 rcases wu l with⟨e,q',h1,h2⟩ | ⟨X,hX,hl,hV,⟨z,hz,h2⟩ | ⟨A,t,B,hT,hv,h2⟩⟩
 . rw[h2] at h;cases h
 . rw[h2] at h;have hzx:z=x:=by
    rcases wk z with h3 | h3 | ⟨_,h3⟩ <;> rw[h3] at h <;> cases h
    rfl
   subst hzx;refine⟨tm_fit z 1 (zgU _ .text _ z _ trivial (fun t ht=>?_) hz).1 hp,by omega⟩;rcases List.mem_append.1 ht with ht | ht
   . exact zev 0 l hl X hX t ht
   . obtain rfl:=List.mem_singleton.1 ht;exact⟨yU,Int.le_refl _,by show(0:Int)<=_;decide⟩
 . rw[h2] at h;cases h
end
