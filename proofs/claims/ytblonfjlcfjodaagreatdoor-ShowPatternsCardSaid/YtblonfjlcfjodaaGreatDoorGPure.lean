/-
  Plain facts: a tree that is read has at most three parts for eac.
-/
import Derived.Test.YtblonfjlcfjodaaGreatDoorGTree
namespace Go.Proofs.YtblonfjlcfjodaaGreatDoor
set_option linter.unusedSimpArgs false
set_option linter.unusedVariables false
section
open Go.RowKit
mutual
def Nd.size:Nd->Nat
 | .mk _ l a=>1+sizeN l+sizeA a
def sizeN:List Nd->Nat
 | []=>0
 | x::r=>x.size+sizeN r
def sizeA:List (Nd×Nd)->Nat
 | []=>0
 | (p,b)::r=>p.size+b.size+sizeA r
end
mutual
theorem vg (d:Nat):∀ x:Nd,(x.parts d).length=x.size
 | .mk h l a=>by
  show((h.pos,d)::(partsN (d+1) l++partsA (d+1) a)).length=1+sizeN l+sizeA a;rw[List.length_cons,List.length_append,sB (d+1) l,si (d+1) a];omega
theorem sB (d:Nat):∀ l:List Nd,(partsN d l).length=sizeN l
 | []=>rfl
 | x::r=>by
  show(x.parts d++partsN d r).length=x.size+sizeN r;rw[List.length_append,vg d x,sB d r]
theorem si (d:Nat):∀ l:List (Nd×Nd),(partsA d l).length=sizeA l
 | []=>rfl
 | (p,b)::r=>by
  show(p.parts d++(b.parts d++partsA d r)).length=p.size+b.size+sizeA r;rw[List.length_append,List.length_append,vg d p,vg d b,si d r];omega
end
theorem tD (l r:List Nd):sizeN (l++r)=sizeN l+sizeN r:=by
 induction l with
 | nil=>show sizeN r=0+sizeN r;omega
 | cons x l ih=>show x.size+sizeN (l++r)=x.size+sizeN l+sizeN r;rw[ih];omega
theorem tc (l r:List (Nd×Nd)):sizeA (l++r)=sizeA l+sizeA r:=by
 induction l with
 | nil=>show sizeA r=0+sizeA r;omega
 | cons x l ih=>show x.1.size+x.2.size+sizeA (l++r)=x.1.size+x.2.size+sizeA l+sizeA r;rw[ih];omega
def Md.held:Md->Nat
 | .lvl _ e | .apps e | .dots e=>e.size
 | .posts _ l | .field _ _ l=>sizeN l
 | .arms l=>sizeA l
 | _=>0
def Md.wt:Md->Nd->Nat
 | .posts _ _,x | .field _ _ _,x | .fields _,x=>sizeN x.args
 | .arms _,x=>sizeA x.arms
 | _,x=>x.size
def Md.slack:Md->Nat
 | .lvl _ _ | .apps _ | .dots _ | .posts _ _ | .arms _=>0
 | .fields _ | .field _ _ _=>2
 | _=>1
def PM.fits (o:Md):Nat->PM->Prop
 | b,.ret x=>o.wt x+o.slack<=b
 | _,.fail=>True
 | b,.call m k=>m.held<=b/\∀ x,PM.fits o (b-m.held+m.wt x+m.slack) (k x)
 | b,.acc _ yes no=>(∀ t,PM.fits o (b+3) (yes t))/\PM.fits o b no
 | b,.look _ yes no=>PM.fits o b yes/\PM.fits o b no
 | b,.look2 _ _ yes no=>PM.fits o b yes/\PM.fits o b no
theorem zbX {o:Md} {b:Nat} {p:Prop} [Decidable p] {x y:PM} (hx:x.fits o b) (hy:y.fits o b):(if p then x else y).fits o b:=by
 split
 . exact hx
 . exact hy
def Fit (m:Md) (T:List Tok):PR->Prop
 | .ok x R=>R.length<=T.length/\m.wt x+m.slack<=3*(T.length-R.length)+m.held
 | _=>True
theorem xk {o:Md} {rec:Md->List Tok->PR} (hr:∀ m T,Fit m T (rec m T)):∀(pm:PM) (b:Nat) (T:List Tok),pm.fits o b->∀ x R,exec rec pm T=.ok x R->R.length<=T.length/\o.wt x+o.slack<=3*(T.length-R.length)+b
 | .ret y,b,T,h,x,R,he=>by
  obtain⟨rfl,rfl⟩:=PR.ok.inj he;exact⟨Nat.le_refl _,by have:o.wt y+o.slack<=b:=h;omega⟩
 | .fail,_,_,_,_,_,he=>by cases he
 | .call m k,b,T,h,x,R,he=>by
  have h1:=hr m T;rw[exec] at he;cases hm:rec m T with
  | ok y S =>
   rw[hm] at he h1;have h2:=xk hr (k y) _ S (h.2 y) x R he;have h3:S.length<=T.length/\m.wt y+m.slack<=3*(T.length-S.length)+m.held:=h1;have:=h.1;omega
  | bad S=>rw[hm] at he;cases he
  | out=>rw[hm] at he;cases he
 | .acc p yes no,b,[],h,x,R,he=>by cases he
 | .acc p yes no,b,t::S,h,x,R,he=>by
  rw[exec] at he
  split at he
  . have h2:=xk hr (yes t) _ S (h.1 t) x R he;rw[List.length_cons];omega
  . exact xk hr no b (t::S) h.2 x R he
 | .look p yes no,b,[],h,x,R,he=>by cases he
 | .look p yes no,b,t::S,h,x,R,he=>by
  rw[exec] at he
  split at he
  . exact xk hr yes b (t::S) h.1 x R he
  . exact xk hr no b (t::S) h.2 x R he
 | .look2 p q yes no,b,[],h,x,R,he=>by cases he
 | .look2 p q yes no,b,t::S,h,x,R,he=>by
  rw[exec] at he
  split at he
  . exact xk hr yes b (t::S) h.1 x R he
  . exact xk hr no b (t::S) h.2 x R he
theorem s7 (t:Tok):(leafE t).size=1:=by
 unfold leafE
 repeat' split
 all_goals rfl
theorem sS (t:Tok):(leafP t).size=1:=by
 unfold leafP
 repeat' split
 all_goals rfl
theorem ze1 (h:Hd) (l:List Nd) (a:List (Nd×Nd)):(Nd.mk h l a).size=1+sizeN l+sizeA a:=rfl
theorem rI (x:Nd) (l:List Nd):sizeN (x::l)=x.size+sizeN l:=rfl
theorem zaW:sizeN []=0:=rfl
theorem zaJ:sizeA []=0:=rfl
theorem rX (p b:Nd) (l:List (Nd×Nd)):sizeA ((p,b)::l)=p.size+b.size+sizeA l:=rfl
theorem zeP (h:Hd) (l:List Nd) (a:List (Nd×Nd)):(Nd.mk h l a).args=l:=rfl
theorem zeW (h:Hd) (l:List Nd) (a:List (Nd×Nd)):(Nd.mk h l a).arms=a:=rfl
theorem step_fits (m:Md):(step m).fits m m.held:=by
 cases m
 case field b ls l =>
  cases b
  all_goals simp only[step,need,name,bound,recordB,withB,if_true,if_false,Bool.false_eq_true]
  all_goals repeat' first | exact trivial | apply zbX | apply And.intro | intro _
  all_goals (simp only[PM.fits,Md.held,Md.wt,Md.slack,node,nodeN,named,bag,ze1,rI,zaW,zaJ,rX,tD,tc,zeP,zeW,s7,sS,if_true,if_false,Bool.false_eq_true];try omega)
 all_goals simp only[step,need,name,bound,recordB,withB]
 all_goals repeat' first | exact trivial | apply zbX | apply And.intro | intro _
 all_goals (simp only[PM.fits,Md.held,Md.wt,Md.slack,node,nodeN,named,bag,ze1,rI,zaW,zaJ,rX,tD,tc,zeP,zeW,s7,sS];try omega)
theorem zcQ:∀(f:Nat) (m:Md) (T:List Tok),Fit m T (run f m T)
 | 0,_,_=>trivial
 | f+1,m,T=>by
  show Fit m T (exec (run f) (step m) T);cases h:exec (run f) (step m) T with
  | ok x R=>exact xk (zcQ f) (step m) m.held T (step_fits m) x R h
  | bad R=>trivial
  | out=>trivial
theorem tokV_size {T:List Tok} {x:Nd} {R:List Tok} (h:tokV T=.ok x R):(x.parts 1).length<=3*(T.length-R.length):=by
 have h1:=zcQ (16*T.length+16) .text T;rw[show run (16*T.length+16) .text T=.ok x R from h] at h1
 have h2:x.size+1<=3*(T.length-R.length)+0:=h1.2;rw[vg];omega
end
section
open Go.RowKit
mutual
def Nd.on (S:Int->Prop):Nd->Prop
 | .mk h l a=>S h.pos/\onN S l/\onA S a
def onN (S:Int->Prop):List Nd->Prop
 | []=>True
 | x::r=>x.on S/\onN S r
def onA (S:Int->Prop):List (Nd×Nd)->Prop
 | []=>True
 | (p,b)::r=>p.on S/\b.on S/\onA S r
end
section
variable {S : Int -> Prop}
theorem on_mk (h:Hd) (l:List Nd) (a:List (Nd×Nd)):(Nd.mk h l a).on S↔S h.pos/\onN S l/\onA S a:=Iff.rfl
theorem onN_nil:onN S []↔True:=Iff.rfl
theorem onN_cons (x:Nd) (r:List Nd):onN S (x::r)↔x.on S/\onN S r:=Iff.rfl
theorem onA_nil:onA S []↔True:=Iff.rfl
theorem onA_cons (p b:Nd) (r:List (Nd×Nd)):onA S ((p,b)::r)↔p.on S/\b.on S/\onA S r:=Iff.rfl
theorem rd (l r:List Nd):onN S (l++r)↔onN S l/\onN S r:=by
 induction l with
 | nil=>show onN S r↔True/\onN S r;simp
 | cons x l ih=>show x.on S/\onN S (l++r)↔(x.on S/\onN S l)/\onN S r;rw[ih,and_assoc]
theorem zdt (l r:List (Nd×Nd)):onA S (l++r)↔onA S l/\onA S r:=by
 induction l with
 | nil=>show onA S r↔True/\onA S r;simp
 | cons x l ih=>show x.1.on S/\x.2.on S/\onA S (l++r)↔(x.1.on S/\x.2.on S/\onA S l)/\onA S r;rw[ih];simp [and_assoc]
theorem on_pos {x:Nd} (h:x.on S):S x.hd.pos:=by cases x;exact h.1
mutual
theorem tq (d:Nat):∀{x:Nd},x.on S->∀ t∈x.parts d,S t.1
 | .mk h l a,hx,t,ht=>by
  have ht:t∈(h.pos,d)::(partsN (d+1) l++partsA (d+1) a):=ht;simp only[List.mem_cons,List.mem_append] at ht;rcases ht with rfl | ht | ht
  . exact hx.1
  . exact q9 (d+1) hx.2.1 t ht
  . exact zaa (d+1) hx.2.2 t ht
theorem q9 (d:Nat):∀{l:List Nd},onN S l->∀ t∈partsN d l,S t.1
 | [],_,t,ht=>by cases ht
 | x::r,hx,t,ht=>by
  have ht:t∈x.parts d++partsN d r:=ht;rcases List.mem_append.1 ht with ht | ht
  . exact tq d hx.1 t ht
  . exact q9 d hx.2 t ht
theorem zaa (d:Nat):∀{l:List (Nd×Nd)},onA S l->∀ t∈partsA d l,S t.1
 | [],_,t,ht=>by cases ht
 | (p,b)::r,hx,t,ht=>by
  have ht:t∈p.parts d++(b.parts d++partsA d r):=ht;rcases List.mem_append.1 ht with ht | ht
  . exact tq d hx.1 t ht
  . rcases List.mem_append.1 ht with ht | ht
    . exact tq d hx.2.1 t ht
    . exact zaa d hx.2.2 t ht
end
def Md.holds (S:Int->Prop):Md->Prop
 | .letb t | .cases _ t | .choice t | .braces t=>S t.2
 | .arms l=>onA S l
 | .lvl _ e | .apps e | .dots e=>e.on S
 | .posts _ l | .field _ _ l=>onN S l
 | _=>True
def Md.gives (S:Int->Prop):Md->Nd->Prop
 | .posts _ _,x | .field _ _ _,x | .fields _,x=>onN S x.args
 | .arms _,x=>onA S x.arms
 | _,x=>x.on S
def PM.placed (S:Int->Prop) (o:Md):PM->Prop
 | .ret x=>o.gives S x
 | .fail=>True
 | .call m k=>m.holds S/\∀ x,m.gives S x->PM.placed S o (k x)
 | .acc p yes no=>Ends p/\(∀ t:Tok,S t.2->PM.placed S o (yes t))/\PM.placed S o no
 | .look _ yes no=>PM.placed S o yes/\PM.placed S o no
 | .look2 _ _ yes no=>PM.placed S o yes/\PM.placed S o no
theorem rn {o:Md} {p:Prop} [Decidable p] {x y:PM} (hx:x.placed S o) (hy:y.placed S o):(if p then x else y).placed S o:=by
 split
 . exact hx
 . exact hy
theorem leafE_on {t:Tok} (h:S t.2):(leafE t).on S:=by
 unfold leafE
 repeat' split
 all_goals exact⟨h,trivial,trivial⟩
theorem leafP_on {t:Tok} (h:S t.2):(leafP t).on S:=by
 unfold leafP
 repeat' split
 all_goals exact⟨h,trivial,trivial⟩
theorem args_mk' (h:Hd) (l:List Nd) (a:List (Nd×Nd)):(Nd.mk h l a).args=l:=rfl
theorem arms_mk' (h:Hd) (l:List Nd) (a:List (Nd×Nd)):(Nd.mk h l a).arms=a:=rfl
theorem zcq (m:Md) (hm:m.holds S):(step m).placed S m:=by
 cases m
 case field b ls l =>
  cases b
  all_goals simp only[step,need,name,bound,recordB,withB,if_true,if_false,Bool.false_eq_true]
  all_goals simp only[PM.placed,Md.holds,Md.gives] at hm ⊢
  all_goals refine⟨xF (by decide),fun t ht=>⟨yE _,fun u hu=>⟨trivial,fun v hv=>⟨yE _,fun z hz=>?_,trivial⟩⟩,trivial⟩,trivial⟩
  all_goals refine rn ?_ ⟨?_,fun x hx=>hx⟩
  all_goals (simp only[Md.holds,bag];exact(rd _ _).2 ⟨hm,hv,trivial⟩)
 all_goals simp only[step,need,name,bound,recordB,withB]
 all_goals simp only[Md.holds] at hm
 all_goals repeat' first | exact trivial | exact yE _ | exact wD | exact xF (by decide) | exact sw | apply rn | (show _/\_;apply And.intro) | (show ∀ _,_;intro _)
 all_goals (try simp only[PM.placed,Md.holds,Md.gives,node,nodeN,named,bag,on_mk,onN_cons,onN_nil,onA_nil,onA_cons,rd,zdt,args_mk',arms_mk'] at *)
 all_goals (try trivial)
 all_goals first | assumption | exact leafE_on ‹_› | exact leafP_on ‹_› | simp_all [on_pos]
def Lies (S:Int->Prop) (T:List Tok):Prop:=∀ t∈T,t.1.kind≠0->S t.2
theorem yy {o:Md} {rec:Md->List Tok->PR} (hr:∀ m T x R,m.holds S->Lies S T->rec m T=.ok x R->m.gives S x/\Lies S R):∀(pm:PM) (T:List Tok),pm.placed S o->Lies S T->∀ x R,exec rec pm T=.ok x R->o.gives S x/\Lies S R
 | .ret y,T,h,hT,x,R,he=>by
  obtain⟨rfl,rfl⟩:=PR.ok.inj he;exact⟨h,hT⟩
 | .fail,_,_,_,_,_,he=>by cases he
 | .call m k,T,h,hT,x,R,he=>by
  rw[exec] at he;cases hm:rec m T with
  | ok y U =>
   rw[hm] at he;obtain⟨h1,h2⟩:=hr m T y U h.1 hT hm;exact yy hr (k y) U (h.2 y h1) h2 x R he
  | bad U=>rw[hm] at he;cases he
  | out=>rw[hm] at he;cases he
 | .acc p yes no,[],h,hT,x,R,he=>by cases he
 | .acc p yes no,t::U,h,hT,x,R,he=>by
  rw[exec] at he
  split at he
  . rename_i hp;exact yy hr (yes t) U (h.2.1 t (hT t (by simp) (h.1 t hp))) (fun u hu=>hT u (by simp [hu])) x R he
  . exact yy hr no (t::U) h.2.2 hT x R he
 | .look p yes no,[],h,hT,x,R,he=>by cases he
 | .look p yes no,t::U,h,hT,x,R,he=>by
  rw[exec] at he
  split at he
  . exact yy hr yes (t::U) h.1 hT x R he
  . exact yy hr no (t::U) h.2 hT x R he
 | .look2 p q yes no,[],h,hT,x,R,he=>by cases he
 | .look2 p q yes no,t::U,h,hT,x,R,he=>by
  rw[exec] at he
  split at he
  . exact yy hr yes (t::U) h.1 hT x R he
  . exact yy hr no (t::U) h.2 hT x R he
theorem qc:∀(f:Nat) (m:Md) (T:List Tok) (x:Nd) (R:List Tok),m.holds S->Lies S T->run f m T=.ok x R->m.gives S x/\Lies S R
 | 0,_,_,_,_,_,_,h=>by cases h
 | f+1,m,T,x,R,h,hT,he=>yy (fun m T x R h hT he=>qc f m T x R h hT he) (step m) T (zcq m h) hT x R he
end
theorem zb5 {T:List Tok} {x:Nd} {R:List Tok} (h:tokV T=.ok x R):∀ t∈x.parts 1,∃ u∈T,t.1=(u.2:Int)/\u.1.kind≠0 :=
 tq 1 (qc (S:=fun p=>∃ u∈T,p=(u.2:Int)/\u.1.kind≠0) _ .text T x R trivial (fun u hu hk=>⟨u,hu,rfl,hk⟩) h).1
theorem deep_mem {most:Int} {x:Nd} {q:Int} (h:deepV most x=some q):∃ t∈x.parts 1,t.1=q/\most<(t.2:Int):=by
 unfold deepV at h;cases hf:(x.parts 1).find? fun t=>decide (most<(t.2:Int)) with
 | none=>rw[hf] at h;cases h
 | some t =>
  rw[hf] at h;exact⟨t,List.mem_of_find?_eq_some hf,zc h,by simpa using List.find?_some hf⟩
theorem deep_nat {T:List Tok} {x:Nd} {R:List Tok} (h:tokV T=.ok x R) {most q:Int} (hq:deepV most x=some q):∃ n:Nat,q=(n:Int):=by
 obtain⟨t,h1,rfl,_⟩:=deep_mem hq;obtain⟨u,_,h2,_⟩:=zb5 h t h1;exact⟨u.2,h2⟩
end
section
open Go.RowKit
def Hd.alike (p:Bool) (h g:Hd):Bool:=decide (h.kind=g.kind)&&((!p||decide (h.pos=g.pos))&&(decide (h.name=g.name)&&(decide (h.n=g.n)&&(decide (h.s=g.s)&&decide (h.labels=g.labels)))))
mutual
def Nd.alike (p:Bool):Nd->Nd->Bool
 | .mk h l a,.mk g m b=>h.alike p g&&(alikeN p l m&&alikeA p a b)
def alikeN (p:Bool):List Nd->List Nd->Bool
 | [],[]=>true
 | x::l,y::m=>x.alike p y&&alikeN p l m
 | [],_::_=>false
 | _::_,[]=>false
def alikeA (p:Bool):List (Nd×Nd)->List (Nd×Nd)->Bool
 | [],[]=>true
 | (x,x')::l,(y,y')::m=>x.alike p y&&(x'.alike p y' && alikeA p l m)
 | [],_::_=>false
 | _::_,[]=>false
end
theorem za2:∀{l:List Nd} {x:Nd},x∈l->x.size<=sizeN l
 | y::l,x,h=>by
  show x.size<=y.size+sizeN l;rcases List.mem_cons.1 h with rfl | h
  . omega
  . have:=za2 h;omega
theorem q8:∀{l:List (Nd×Nd)} {x:Nd×Nd},x∈l->x.1.size+x.2.size<=sizeA l
 | (p,b)::l,x,h=>by
  show x.1.size+x.2.size<=p.size+b.size+sizeA l;rcases List.mem_cons.1 h with rfl | h
  . simp only;omega
  . have:=q8 h;omega
theorem xO {x c:Nd} (h:c∈x.args):c.size<x.size:=by
 cases x with
 | mk hd l a =>
  have:=za2 h;show c.size<1+sizeN l+sizeA a;have:c.size<=sizeN l:=this;omega
theorem uX {x:Nd} {c:Nd×Nd} (h:c∈x.arms):c.1.size<x.size/\c.2.size<x.size:=by
 cases x with
 | mk hd l a =>
  have h1:=q8 h;have h1:c.1.size+c.2.size<=sizeA a:=h1;constructor
  . show c.1.size<1+sizeN l+sizeA a;omega
  . show c.2.size<1+sizeN l+sizeA a;omega
end
section
open Go.RowKit
abbrev openT (q:Nat):Tok:=(⟨7,sOpen,0⟩,q)
def PM.balk:PM->Prop
 | .ret _=>False
 | .fail=>True
 | .call m _=>m.chain=true
 | .acc p _ no=>(∀ c,isShut c->p c=false)/\no.balk
 | .look p _ no=>(∀ c,isShut c->p c=false)/\no.balk
 | .look2 _ _ _ _=>False
structure Stops (u:Tok):Prop where
 dot:isOne [sDot] u=false
 begin_:begins u=false
mutual
theorem Nd.parts_er (d:Nat):∀ x:Nd,(x.er.parts d).map (·.2)=(x.parts d).map (·.2)
 | .mk h l a=>by
  show d::(partsN (d+1) (ersN l)++partsA (d+1) (ersA a)).map (·.2)=d::(partsN (d+1) l++partsA (d+1) a).map (·.2);rw[List.map_append,List.map_append,za3 (d+1) l,zaX (d+1) a]
theorem za3 (d:Nat):∀ l:List Nd,(partsN d (ersN l)).map (·.2)=(partsN d l).map (·.2)
 | []=>rfl
 | x::r=>by
  show(x.er.parts d++partsN d (ersN r)).map (·.2)=(x.parts d++partsN d r).map (·.2);rw[List.map_append,List.map_append,Nd.parts_er d x,za3 d r]
theorem zaX (d:Nat):∀ l:List (Nd×Nd),(partsA d (ersA l)).map (·.2)=(partsA d l).map (·.2)
 | []=>rfl
 | (p,b)::r=>by
  show(p.er.parts d++(b.er.parts d++partsA d (ersA r))).map (·.2)=(p.parts d++(b.parts d++partsA d r)).map (·.2);rw[List.map_append,List.map_append,List.map_append,List.map_append,Nd.parts_er d p,Nd.parts_er d b,zaX d r]
end
inductive PV.Like:PV->PV->Prop
 | ok {x y:Nd} (h:x.er=y.er):PV.Like (.ok x) (.ok y)
 | bad (e:Int) (p q:Nat):PV.Like (.bad e p) (.bad e q)
end
section
open Go.RowKit
def z0:Nd:=.mk ⟨0,0,[],0,[],[]⟩ [] []
def PV.tree:PV->Nd
 | .ok x=>x
 | .bad _ _=>z0
def PV.err:PV->Int
 | .ok _=>0
 | .bad e _=>e
def PV.at_:PV->Nat
 | .ok _=>0
 | .bad _ q=>q
end
section
open Go.RowKit
def sg:Nat->List (List UInt8)
 | 0=>[sSemi]
 | 1=>[sAssign]
 | n+2=>signsOf n
def nk (n:Nat):Int:=if n=0 then 20 else if n=2 then 22 else if n=3 then 21 else 19
def nd (n:Nat) (t:Tok) (x y:Nd):Nd:=node (nk n) t [x,y]
def Rd (m:Md) (T:List Tok) (x:Nd) (R:List Tok):Prop:=∃ f,run f m T=.ok x R
def St (T:List Tok):Prop:=∃ t T',T=t::T'/\isOne [sFun] t=false/\isOne [sLet,sMatch,sTry,sIf,sRaise] t=false
structure SgAt (i:Nat) (t:Tok):Prop where
 le:i<=6
 one:isOne (sg i) t=true
 other:∀ j,j<=6->j≠i->isOne (sg j) t=false
 stops:Stops t
def NoSg (u:Tok):Prop:=∀ j,j<=6->isOne (sg j) u=false
structure Opd (W:List Tok) (x:Nd):Prop where
 st:∀ Z,St (W++Z)
 reads:∀ u Z,Stops u->Rd .unary (W++u::Z) x (u::Z)
section
variable {A B C R : List Tok} {a b c : Nd} {i k : Nat} {s t u : Tok}
end
end
section
open Go.RowKit
def LexE (l:List UInt8) (E:List Tok):Prop:=∀ p,∃ U,lexGo p 0 l=.ok U/\U.map er=E
section
variable {a b c : List UInt8} {x y z : Nd} {i k : Nat} (ha : ParseV a = .ok x) (hb : ParseV b = .ok y) (hc : ParseV c = .ok z) (hi : i < 11) (hk : k < 11)
include ha hb hc hi hk
end
end
